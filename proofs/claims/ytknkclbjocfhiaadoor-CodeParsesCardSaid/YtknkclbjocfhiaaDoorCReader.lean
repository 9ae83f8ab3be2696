/- The reader of a text: the byte that stands here, one byte taken, a word. A region that draws its order: whatever order is picked, a fact S stands behind each operation but those that are named; what yields the same in each such world may be taken first. A row of the call's own, of elements of several cells: what it holds, one element more, a cell stored. The reader of a text: a property, a node's properties, its text, a node's beginning. The reader of a text: a node's beginning. The nodes that have begun and not ended, in a row of the call's own, each with its own row of Kids. A node that has ended becomes a kid of the one above it: what the two stores leave, whichever comes first. -/
import Derived.Test.YtknkclbjocfhiaaDoorCLay
import Derived.Test.YtknkclbjocfhiaaDoorCPlain
import Derived.Test.YtknkclbjocfhiaaDoorGRead
import Derived.StillTailTactics
import Derived.Test.YtknkclbjocfhiaaDoorGMem
import Derived.OrdersHeld
import Derived.Test.YtknkclbjocfhiaaDoorNFresh
import Derived.Deep.AppendLies
import Derived.Test.YtknkclbjocfhiaaDoorPCheck
import Derived.Test.YtknkclbjocfhiaaDoorGUnq2
namespace Go.Proofs.YtknkclbjocfhiaaDoor
open Go.RowKit

/-- Nothing below B has changed but block R. -/
structure OffB (R B : Nat) (w w' : World) : Prop where
  os : w'.os = w.os
  tape : w'.tape = w.tape
  output : w'.output = w.output
  size : w.heap.size ≤ w'.heap.size
  block : ∀ k, k < B → k ≠ R → w'.heap[k]? = w.heap[k]?
section
variable {R B : Nat} {w w' w2 : World}
set_option maxRecDepth 4000 in
theorem OffB.refl (R B : Nat) (w : World) : OffB R B w w := ⟨rfl, rfl, rfl, Nat.le_refl _, fun _ _ _ => rfl⟩
set_option maxRecDepth 4000 in
theorem OffB.trans (h : OffB R B w w') (k : OffB R B w' w2) : OffB R B w w2 :=
  ⟨k.os.trans h.os, k.tape.trans h.tape, k.output.trans h.output, Nat.le_trans h.size k.size, fun i h1 h2 => (k.block i h1 h2).trans (h.block i h1 h2)⟩
set_option maxRecDepth 4000 in
theorem OffB.of_below {C : Nat} (h : Below C w w') (hB : B ≤ C) : OffB R B w w' := ⟨h.os, h.tape, h.output, h.size, fun k hk _ => h.block k (by omega)⟩
set_option maxRecDepth 4000 in
theorem OffB.less {C : Nat} (h : OffB R C w w') (hB : B ≤ C) : OffB R B w w' := ⟨h.os, h.tape, h.output, h.size, fun k hk hr => h.block k (by omega) hr⟩
set_option maxRecDepth 4000 in
theorem OffB.below {C : Nat} (h : OffB R B w w') (hC : C ≤ R) (hB : C ≤ B) : Below C w w' := ⟨h.os, h.tape, h.output, h.size, fun k hk => h.block k (by omega) (by omega)⟩
set_option maxRecDepth 4000 in
theorem OffB.set (h : OffB R B w w') (j : Nat) (u : Value) : OffB R B w (w'.setCell ⟨R, j, none⟩ u) :=
  ⟨h.os, h.tape, h.output, by simpa using h.size, fun k h1 h2 => (Below.heap_setCell _ _ _ _ (by simpa using h2)).trans (h.block k h1 h2)⟩
set_option maxRecDepth 4000 in
theorem OffB.drewN (h : OffB R B w w') (n : Nat) : OffB R B w (w'.drewN n) := ⟨h.os, h.tape, h.output, h.size, h.block⟩
set_option maxRecDepth 4000 in
theorem OffB.alloc (h : OffB R B w w') (o : Obj) (hB : B ≤ w'.heap.size) : OffB R B w (w'.alloc o) := h.trans (.of_below ((Below.refl _ _).alloc (Nat.le_refl _) _) hB)
set_option maxRecDepth 4000 in
theorem OffB.cell (h : OffB R B w w') {p : Addr} (hp : p.block < B) (hr : p.block ≠ R) : w'.cell? p = w.cell? p := World.cell?_of_block (h.block _ hp hr)
set_option maxRecDepth 4000 in
theorem OffB.frozen (h : OffB R B w w') {p : Addr} (hp : p.block < B) (hr : p.block ≠ R) : w'.frozen? p = w.frozen? p := World.frozen?_of_block (h.block _ hp hr)
end

/-- The reader in block R has read s up to i. -/
structure Rd (R : Nat) (s : ByteArray) (i : Nat) (w : World) : Prop where
  blk : w.heap[R]? = some (.cells #[.string s, .int .i64 i] 59 (0, 0))
section
variable {R i : Nat} {s : ByteArray} {w w' : World}
set_option maxRecDepth 4000 in
theorem Rd.lt (h : Rd R s i w) : R < w.heap.size := (Array.getElem?_eq_some_iff.1 h.blk).1
set_option maxRecDepth 4000 in
theorem Rd.cells (h : Rd R s i w) : w.cell? ⟨R, 0, none⟩ = some (.string s) ∧ w.cell? ⟨R, 1, none⟩ = some (.int .i64 i) ∧ w.frozen? ⟨R, 1, none⟩ = false := by
  refine ⟨?_, ?_, ?_⟩
  · rw [Lib.cell_of_heap h.blk]; rfl
  · rw [Lib.cell_of_heap h.blk]; rfl
  · exact Lib.frozen_of_heap h.blk 1
set_option maxRecDepth 4000 in
theorem Rd.below (h : Rd R s i w) (hb : Below w.heap.size w w') : Rd R s i w' := ⟨(hb.block _ h.lt).trans h.blk⟩
set_option maxRecDepth 4000 in
theorem Rd.drewN (h : Rd R s i w) (n : Nat) : Rd R s i (w.drewN n) := ⟨h.blk⟩
set_option maxRecDepth 4000 in
theorem Rd.set (h : Rd R s i w) (j : Nat) : Rd R s j (w.setCell ⟨R, 1, none⟩ (.int .i64 j)) := by
  refine ⟨?_⟩
  have h1 := h.blk
  have hlt := h.lt
  have h' : w.heap[R] = .cells #[.string s, .int .i64 i] 59 (0, 0) := by simpa [Array.getElem?_eq_getElem hlt] using h1
  show (w.heap.modify R _)[R]? = _
  rw [Array.getElem?_eq_getElem (by simpa using hlt), Array.getElem_modify_self, h']
  rfl
end

/-- What a byte of the text is. -/
def atB (s : ByteArray) (i : Nat) : Option UInt8 := s.data.toList[i]?
set_option maxRecDepth 4000 in
theorem atB_some {s : ByteArray} {i : Nat} (h : i < s.size) : atB s i = some s[i] := by
  unfold atB
  rw [List.getElem?_eq_getElem (by rw [data_size]; exact h)]
  rfl
set_option maxRecDepth 4000 in
theorem atB_none {s : ByteArray} {i : Nat} (h : s.size ≤ i) : atB s i = none := by
  unfold atB
  rw [List.getElem?_eq_none_iff, data_size]; exact h
set_option maxRecDepth 4000 in
theorem atB_lt {s : ByteArray} {i : Nat} {c : UInt8} (h : atB s i = some c) : i < s.size := by
  have := (List.getElem?_eq_some_iff.1 h).1
  rwa [data_size] at this
set_option maxRecDepth 4000 in
theorem byte_ne {b c : UInt8} (h : b ≠ c) : (b.toNat : Int) ≠ c.toNat := fun e => h (UInt8.toNat_inj.1 (by omega))

set_option maxRecDepth 4000 in
set_option maxHeartbeats 1000000 in
theorem rnext_any (R : Nat) (s : ByteArray) (i : Nat) (c : UInt8) (z : Int) (hz : z = c.toNat) (b : Bool) (hb : decide (atB s i = some c) = b) (w : World) (h : Rd R s i w) (_hs : s.size ≤ 1000000) :
    Calls Tryd.prog 75 #[.pointer (some ⟨R, 0, none⟩), .int .u8 z] w (Quiet (.bool b) w) := by
  obtain ⟨x0, x1, _⟩ := h.cells
  clear h
  by_cases hlt : i < s.size
  · have hlt' : (i : Int) < (s.size : Int) := by omega
    obtain ⟨x, hx⟩ : ∃ x : Int, (s[i].toNat : Int) = x := ⟨_, rfl⟩
    rw [atB_some hlt] at hb
    have HB := hd (show (x == z) = b by
      rw [← hb, ← hx, hz]
      by_cases e : s[i] = c
      · simp [e]
      · have := byte_ne e
        simp only [Option.some.injEq, e, decide_false]
        exact beq_eq_false_iff_ne.2 this)
    have hbnd := s[i].toNat_lt
    clear hb hz
    go_enter Tryd.func75, Tryd.ntmps75
    go_wp2_with fail
    go_quiet (fail)
    go_wp2
    go_ret
    exact ret_quiet (bool_eq (by simpa using HB.out)) (by first | exact ⟨_, rfl⟩ | exact ⟨_, World.drewN_drewN _ _ _⟩ | exact ⟨_, (World.drewN_drewN _ _ _).trans (World.drewN_drewN _ _ _)⟩)
  · have hlt' : decide (i < s.size) = false := decide_eq_false hlt
    have HB := hd (show false = b by rw [← hb, atB_none (by omega)]; rfl)
    clear hb hz hlt
    go_enter Tryd.func75, Tryd.ntmps75
    go_wp2_with fail
    go_quiet (fail)
    go_wp2
    go_ret
    exact ret_quiet (bool_eq HB.out) (by first | exact ⟨_, rfl⟩ | exact ⟨_, World.drewN_drewN _ _ _⟩ | exact ⟨_, (World.drewN_drewN _ _ _).trans (World.drewN_drewN _ _ _)⟩)

set_option maxRecDepth 4000 in
/-- A byte that does not stand here, and one that does. -/
theorem take_no (R : Nat) (s : ByteArray) (i : Nat) (c : UInt8) (z : Int) (hz : z = c.toNat) (w : World) (h : Rd R s i w) (hs : s.size ≤ 1000000) (hc : atB s i ≠ some c) :
    Calls Tryd.prog 52 #[.pointer (some ⟨R, 0, none⟩), .int .u8 z] w (Quiet (.bool false) w) := by
  have HC := hd (rnext_any R s i c z hz false (decide_eq_false hc) w h hs)
  clear h hz hc
  go_enter Tryd.func52, Tryd.ntmps52
  go_wp2_with fail
  refine HC.out.mono ?_
  rintro e w' ⟨rfl, kd, rfl⟩
  go_wp2
  go_ret
  exact ret_quiet rfl (by first | exact ⟨_, rfl⟩ | exact ⟨_, World.drewN_drewN _ _ _⟩ | exact ⟨_, (World.drewN_drewN _ _ _).trans (World.drewN_drewN _ _ _)⟩)
def Taken (R : Nat) (s : ByteArray) (j : Nat) (v : Value) (w : World) (e : Ending) (w' : World) : Prop := e = .returned v ∧ Rd R s j w' ∧ OffB R w.heap.size w w'
set_option maxRecDepth 4000 in
theorem take_yes (R : Nat) (s : ByteArray) (i : Nat) (c : UInt8) (z : Int) (hz : z = c.toNat) (w : World) (h : Rd R s i w) (hs : s.size ≤ 1000000) (hc : atB s i = some c) :
    Calls Tryd.prog 52 #[.pointer (some ⟨R, 0, none⟩), .int .u8 z] w (Taken R s (i + 1) (.bool true) w) := by
  have HC := hd (rnext_any R s i c z hz true (decide_eq_true hc) w h hs)
  have hi := atB_lt hc
  have HR := hd h
  clear h hz hc
  go_enter Tryd.func52, Tryd.ntmps52
  go_wp2_with fail
  refine HC.out.mono ?_
  rintro e w' ⟨rfl, kd, rfl⟩
  have HR2 := hd (HR.out.drewN kd)
  obtain ⟨x0, x1, x2⟩ := HR2.out.cells
  go_wp2
  go_ret
  exact ⟨rfl, by have := HR2.out.set (i + 1); simpa using this, ((OffB.refl _ _ _).drewN kd).set 1 _⟩

set_option maxRecDepth 4000 in
/-- What a byte may stand in. -/
theorem standsIn_any (c : UInt8) (z : Int) (hz : z = c.toNat) (w : World) (r : Int) (hr : (if isLet c = true then 3 else if isVal c = true then 2 else 0) = r) :
    Calls Tryd.prog 101 #[.int .u8 z] w (Pure (.int .i64 r) w) := by
  have hb := c.toNat_lt
  have h1 : isLet c = (decide (97 ≤ z) && decide (z ≤ 122)) := by unfold isLet; rw [hz]
  have h2 : isVal c = (isLet c || (decide (48 ≤ z) && decide (z ≤ 57)) || (z == 45)) := by unfold isVal isDig; rw [hz]
  by_cases a1 : 97 ≤ z
  · by_cases a2 : z ≤ 122
    · have e : r = 3 := by rw [← hr, h1]; simp [a1, a2]
      clear hr h1 h2 hz hb
      subst e
      go_enter Tryd.func101, Tryd.ntmps101
      go_wp2
      go_ret
      exact pure_ret rfl
    · have e : r = 0 := by rw [← hr, h2, h1]; simp [a2]; omega
      have g1 : (z == 45) = false := by simp; omega
      have g2 : decide (z ≤ 57) = false := by simp; omega
      have g3 : 48 ≤ z := by omega
      have g4 : decide (z ≤ 122) = false := by simp; omega
      clear hr h1 h2 hz hb
      subst e
      go_enter Tryd.func101, Tryd.ntmps101
      go_wp2
      go_ret
      exact pure_ret rfl
  · have g4 : decide (97 ≤ z) = false := by simp; omega
    by_cases a3 : 48 ≤ z
    · by_cases a4 : z ≤ 57
      · have e : r = 2 := by rw [← hr, h2, h1]; simp [a1, a3, a4]
        clear hr h1 h2 hz hb
        subst e
        go_enter Tryd.func101, Tryd.ntmps101
        go_wp2
        go_ret
        exact pure_ret rfl
      · have e : r = 0 := by rw [← hr, h2, h1]; simp [a1, a4]; omega
        have g1 : (z == 45) = false := by simp; omega
        have g2 : decide (z ≤ 57) = false := by simp; omega
        clear hr h1 h2 hz hb
        subst e
        go_enter Tryd.func101, Tryd.ntmps101
        go_wp2
        go_ret
        exact pure_ret rfl
    · have g2 : decide (48 ≤ z) = false := by simp; omega
      by_cases a5 : z = 45
      · have e : r = 2 := by rw [← hr, h2, h1]; simp [a5]
        clear hr h1 h2 hz hb
        subst e a5
        go_enter Tryd.func101, Tryd.ntmps101
        go_wp2
        go_ret
        exact pure_ret rfl
      · have e : r = 0 := by rw [← hr, h2, h1]; simp [a1, a3, a5]
        have g1 : (z == 45) = false := by simpa using a5
        clear hr h1 h2 hz hb
        subst e
        go_enter Tryd.func101, Tryd.ntmps101
        go_wp2
        go_ret
        exact pure_ret rfl

set_option maxRecDepth 4000 in
theorem sclone_any (s : ByteArray) (w : World) (h : s.size ≤ 1000000) : Calls Tryd.prog 102 #[.string s] w (Still (.string s) w) := by
  have HC := hd (stringslite_Clone s w (by omega))
  clear h
  go_enter Tryd.func102, Tryd.ntmps102
  go_wp2_with fail
  refine HC.out.mono ?_
  rintro e w' ⟨rfl, hb⟩
  go_wp2
  go_ret
  exact ⟨rfl, hb⟩

set_option maxRecDepth 4000 in
theorem ex_data (s : ByteArray) (i j : Nat) : (s.extract i j).data.toList = cutS s.data.toList i j := by
  have h := congrArg (fun t : ByteArray => t.data.toList) (ByteArray.extract_mk s.data.toList i j)
  have e : (s.data.toList.drop i).take (j - i) = cutS s.data.toList i j := by unfold cutS; rw [List.drop_take]
  rw [← e]
  exact h
set_option maxRecDepth 4000 in
theorem ex_mk (s : ByteArray) (i j : Nat) : s.extract i j = mkB (cutS s.data.toList i j) := by
  rw [← ex_data, mkB_of]
set_option maxRecDepth 4000 in
theorem mkB_cut_size (s : ByteArray) (i j : Nat) (h : j ≤ s.size) : (mkB (cutS s.data.toList i j)).size = j - i := by
  rw [mkB_size, cutS_len _ _ _ (by rw [data_size]; exact h)]

set_option maxRecDepth 4000 in
/-- How far a word goes, byte by byte. -/
theorem endB_step {f : UInt8 → Bool} {s : ByteArray} {k : Nat} {c : UInt8} (h : atB s k = some c) (hf : f c = true) : endL f s.data.toList k = endL f s.data.toList (k + 1) := endL_step h hf
set_option maxRecDepth 4000 in
theorem endB_stop {f : UInt8 → Bool} {s : ByteArray} {k : Nat} (h : ∀ c, atB s k = some c → f c = false) : endL f s.data.toList k = k := endL_stop h
set_option maxRecDepth 4000 in
theorem endB_le {f : UInt8 → Bool} {s : ByteArray} {k : Nat} (h : k ≤ s.size) : endL f s.data.toList k ≤ s.size := by
  have := endL_le (f := f) (s := s.data.toList) (i := k) (by rw [data_size]; exact h)
  rwa [data_size] at this

/-- How far the reader has come. -/
def rpos (R : Nat) (w : World) : Nat := match w.cell? ⟨R, 1, none⟩ with | some (.int _ i) => i.toNat | _ => 0
set_option maxRecDepth 4000 in
theorem Rd.rpos_eq {R i : Nat} {s : ByteArray} {w : World} (h : Rd R s i w) : rpos R w = i := by unfold rpos; rw [h.cells.2.1]; simp
set_option maxRecDepth 4000 in
theorem Rd.read {R B i : Nat} {s : ByteArray} {w w' : World} (h : Rd R s i w') (hb : OffB R B w w') (n : Nat) : OffB R B w (w'.drewN n) ∧ Rd R s i (w'.drewN n) := ⟨hb.drewN n, h.drewN n⟩
set_option maxRecDepth 4000 in
theorem byteInt (c : UInt8) : ∃ z : Int, (c.toNat : Int) = z ∧ 0 ≤ z ∧ z < 256 := ⟨_, rfl, by omega, by have := c.toNat_lt; omega⟩
set_option maxRecDepth 4000 in
theorem quiet_of_pure {f : FuncId} {args : Array Value} {v : Value} {w : World} {n : Nat} (h : Calls Tryd.prog f args (w.drewN n) (Pure v (w.drewN n))) :
    Calls Tryd.prog f args (w.drewN n) fun e w' => e = .returned v ∧ ∃ m, w' = w.drewN m := h.mono fun _ _ ⟨he, hw⟩ => ⟨he, n, hw.symm⟩

set_option maxRecDepth 4000 in
theorem stands_cases (c : UInt8) : (isLet c = true ∧ isVal c = true ∧ (if isLet c = true then (3 : Int) else if isVal c = true then 2 else 0) = 3) ∨ (isLet c = false ∧ isVal c = true ∧ (if isLet c = true then (3 : Int) else if isVal c = true then 2 else 0) = 2) ∨ (isLet c = false ∧ isVal c = false ∧ (if isLet c = true then (3 : Int) else if isVal c = true then 2 else 0) = 0) := by
  cases h1 : isLet c
  · cases h2 : isVal c
    · simp
    · simp
  · have h2 : isVal c = true := by unfold isVal; rw [h1]; rfl
    simp [h2]

set_option maxRecDepth 4000 in
set_option maxHeartbeats 4000000 in
theorem wordKey_any (R : Nat) (s : ByteArray) (i : Nat) (w : World) (h : Rd R s i w) (hi : i ≤ s.size) (hs : s.size ≤ 1000000) :
    Calls Tryd.prog 94 #[.pointer (some ⟨R, 0, none⟩), .int .i64 1] w (Taken R s (endL isLet s.data.toList i) (.string (mkB (cutS s.data.toList i (endL isLet s.data.toList i)))) w) := by
  obtain ⟨x0, x1, x2⟩ := h.cells
  have HR := hd h
  clear h
  go_enter Tryd.func94, Tryd.ntmps94
  go_wp2_with fail
  clear x0 x1 x2
  go_loopw [] (fun wr => ∃ k : Nat, i ≤ k ∧ k ≤ s.size ∧ Hid (Rd R s k wr) ∧ Hid (endL isLet s.data.toList i = endL isLet s.data.toList k) ∧ Hid (OffB R w.heap.size w wr)) (fun wr => s.size - rpos R wr)
  case atStart => exact ⟨i, Nat.le_refl _, hi, HR, rfl, OffB.refl _ _ _⟩
  case round =>
    obtain ⟨k, hk1, hk2, HK, HE, HO⟩ := hrel
    have hpos := HK.out.rpos_eq
    obtain ⟨x0, x1, x2⟩ := HK.out.cells
    have HKO := hd (fun n => HK.out.read HO.out n)
    by_cases hlt : k < s.size
    · have hlt' : (k : Int) < (s.size : Int) := by omega
      obtain ⟨x, hx, hx0, hx1⟩ := byteInt s[k]
      have HA := hd (atB_some hlt)
      have hc := fun (r : Int) (e : (if isLet s[k] = true then (3 : Int) else if isVal s[k] = true then 2 else 0) = r) (n : Nat) => standsIn_any s[k] x hx.symm (wr.drewN n) r e
      rcases stands_cases s[k] with ⟨h1, h2, hr⟩ | ⟨h1, h2, hr⟩ | ⟨h1, h2, hr⟩
      · have HC := hd (hc 3 hr)
        have HF := hd (HE.out.trans (endB_step HA.out h1))
        have g1 : (bits BinOp.and IntKind.i64 3 1 != 0) = true := by decide
        clear hc HK HE HO
        go_wp2_with fail
        go_quiet ((go_at_call 101; exact quiet_of_pure (HC.out _)))
        obtain ⟨HO2, HK2⟩ := HKO.out nq
        have HO2 := hd HO2
        have HK2 := hd HK2
        obtain ⟨y0, y1, y2⟩ := HK2.out.cells
        have HK3 := hd (HK2.out.set (k + 1))
        have HP3 := hd HK3.out.rpos_eq
        go_wp2
        go_roundw
        case rel => exact ⟨k + 1, by omega, by omega, by have := HK3; simpa using this, HF, hd (HO2.out.set 1 _)⟩
        case measure => rw [show ((k : Int) + 1) = ((k + 1 : Nat) : Int) by omega, HP3.out, hpos]; omega
      · have HC := hd (hc 2 hr)
        have g1 : (bits BinOp.and IntKind.i64 2 1 != 0) = false := by decide
        have HF := hd (show endL isLet s.data.toList i = k from HE.out.trans (endB_stop fun c h => by rw [HA.out] at h; injection h with h; rw [← h]; exact h1))
        clear hc HK HE HO
        go_wp2_with fail
        go_quiet ((go_at_call 101; exact quiet_of_pure (HC.out _)))
        obtain ⟨HO2, HK2⟩ := HKO.out nq
        have hIO := hd HO2
        have hIK := hd HK2
        clear x0 x1 x2 HKO HO2 HK2
        generalize wr.drewN nq = W2 at hIO hIK ⊢
        obtain ⟨y0, y1, y2⟩ := hIK.out.cells
        have HX := hd (ex_mk s i k)
        have hxs := mkB_cut_size s i k hk2
        have HC2 := hd (fun (w2 : World) => sclone_any (mkB (cutS s.data.toList i k)) w2 (by omega))
        have hsz := hIO.out.size
        have hik : (i : Int) ≤ (k : Int) := by omega
        have hks : (k : Int) ≤ (s.size : Int) := by omega
        clear hxs
        go_wp2_with fail
        go_still_tail 10, (by kernel_rfl)
        rw [HX.out]
        show wpList _ _ _ _ _ W2.drew
        go_wp2_with fail
        refine (HC2.out _).mono ?_
        rintro e w2 ⟨rfl, hb2⟩
        go_wp2
        go_ret
        rw [HF.out]
        exact ⟨rfl, (hIK.out.below ((Below.refl _ _).drew)).below hb2, (hIO.out.trans (.of_below ((Below.refl _ _).drew) hsz)).trans (.of_below hb2 hsz)⟩
      · have HC := hd (hc 0 hr)
        have g1 : (bits BinOp.and IntKind.i64 0 1 != 0) = false := by decide
        have HF := hd (show endL isLet s.data.toList i = k from HE.out.trans (endB_stop fun c h => by rw [HA.out] at h; injection h with h; rw [← h]; exact h1))
        clear hc HK HE HO
        go_wp2_with fail
        go_quiet ((go_at_call 101; exact quiet_of_pure (HC.out _)))
        obtain ⟨HO2, HK2⟩ := HKO.out nq
        have hIO := hd HO2
        have hIK := hd HK2
        clear x0 x1 x2 HKO HO2 HK2
        generalize wr.drewN nq = W2 at hIO hIK ⊢
        obtain ⟨y0, y1, y2⟩ := hIK.out.cells
        have HX := hd (ex_mk s i k)
        have hxs := mkB_cut_size s i k hk2
        have HC2 := hd (fun (w2 : World) => sclone_any (mkB (cutS s.data.toList i k)) w2 (by omega))
        have hsz := hIO.out.size
        have hik : (i : Int) ≤ (k : Int) := by omega
        have hks : (k : Int) ≤ (s.size : Int) := by omega
        clear hxs
        go_wp2_with fail
        go_still_tail 10, (by kernel_rfl)
        rw [HX.out]
        show wpList _ _ _ _ _ W2.drew
        go_wp2_with fail
        refine (HC2.out _).mono ?_
        rintro e w2 ⟨rfl, hb2⟩
        go_wp2
        go_ret
        rw [HF.out]
        exact ⟨rfl, (hIK.out.below ((Below.refl _ _).drew)).below hb2, (hIO.out.trans (.of_below ((Below.refl _ _).drew) hsz)).trans (.of_below hb2 hsz)⟩
    · have hlt' : decide (k < s.size) = false := decide_eq_false hlt
      have HF := hd (show endL isLet s.data.toList i = k from HE.out.trans (endB_stop fun c h => by rw [atB_none (by omega)] at h; cases h))
      clear HK HE HO hlt
      go_wp2_with fail
      go_quiet (fail)
      obtain ⟨HO2, HK2⟩ := HKO.out nq
      have hIO := hd HO2
      have hIK := hd HK2
      clear x0 x1 x2 HKO HO2 HK2
      generalize wr.drewN nq = W2 at hIO hIK ⊢
      obtain ⟨y0, y1, y2⟩ := hIK.out.cells
      have HX := hd (ex_mk s i k)
      have hxs := mkB_cut_size s i k hk2
      have HC2 := hd (fun (w2 : World) => sclone_any (mkB (cutS s.data.toList i k)) w2 (by omega))
      have hsz := hIO.out.size
      have hik : (i : Int) ≤ (k : Int) := by omega
      have hks : (k : Int) ≤ (s.size : Int) := by omega
      clear hxs
      go_wp2_with fail
      go_still_tail 10, (by kernel_rfl)
      rw [HX.out]
      show wpList _ _ _ _ _ W2.drew
      go_wp2_with fail
      refine (HC2.out _).mono ?_
      rintro e w2 ⟨rfl, hb2⟩
      go_wp2
      go_ret
      rw [HF.out]
      exact ⟨rfl, (hIK.out.below ((Below.refl _ _).drew)).below hb2, (hIO.out.trans (.of_below ((Below.refl _ _).drew) hsz)).trans (.of_below hb2 hsz)⟩

set_option maxRecDepth 4000 in
set_option maxHeartbeats 4000000 in
theorem wordVal_any (R : Nat) (s : ByteArray) (i : Nat) (w : World) (h : Rd R s i w) (hi : i ≤ s.size) (hs : s.size ≤ 1000000) :
    Calls Tryd.prog 94 #[.pointer (some ⟨R, 0, none⟩), .int .i64 2] w (Taken R s (endL isVal s.data.toList i) (.string (mkB (cutS s.data.toList i (endL isVal s.data.toList i)))) w) := by
  obtain ⟨x0, x1, x2⟩ := h.cells
  have HR := hd h
  clear h
  go_enter Tryd.func94, Tryd.ntmps94
  go_wp2_with fail
  clear x0 x1 x2
  go_loopw [] (fun wr => ∃ k : Nat, i ≤ k ∧ k ≤ s.size ∧ Hid (Rd R s k wr) ∧ Hid (endL isVal s.data.toList i = endL isVal s.data.toList k) ∧ Hid (OffB R w.heap.size w wr)) (fun wr => s.size - rpos R wr)
  case atStart => exact ⟨i, Nat.le_refl _, hi, HR, rfl, OffB.refl _ _ _⟩
  case round =>
    obtain ⟨k, hk1, hk2, HK, HE, HO⟩ := hrel
    have hpos := HK.out.rpos_eq
    obtain ⟨x0, x1, x2⟩ := HK.out.cells
    have HKO := hd (fun n => HK.out.read HO.out n)
    by_cases hlt : k < s.size
    · have hlt' : (k : Int) < (s.size : Int) := by omega
      obtain ⟨x, hx, hx0, hx1⟩ := byteInt s[k]
      have HA := hd (atB_some hlt)
      have hc := fun (r : Int) (e : (if isLet s[k] = true then (3 : Int) else if isVal s[k] = true then 2 else 0) = r) (n : Nat) => standsIn_any s[k] x hx.symm (wr.drewN n) r e
      rcases stands_cases s[k] with ⟨h1, h2, hr⟩ | ⟨h1, h2, hr⟩ | ⟨h1, h2, hr⟩
      · have HC := hd (hc 3 hr)
        have HF := hd (HE.out.trans (endB_step HA.out h2))
        have g1 : (bits BinOp.and IntKind.i64 3 2 != 0) = true := by decide
        clear hc HK HE HO
        go_wp2_with fail
        go_quiet ((go_at_call 101; exact quiet_of_pure (HC.out _)))
        obtain ⟨HO2, HK2⟩ := HKO.out nq
        have HO2 := hd HO2
        have HK2 := hd HK2
        obtain ⟨y0, y1, y2⟩ := HK2.out.cells
        have HK3 := hd (HK2.out.set (k + 1))
        have HP3 := hd HK3.out.rpos_eq
        go_wp2
        go_roundw
        case rel => exact ⟨k + 1, by omega, by omega, by have := HK3; simpa using this, HF, hd (HO2.out.set 1 _)⟩
        case measure => rw [show ((k : Int) + 1) = ((k + 1 : Nat) : Int) by omega, HP3.out, hpos]; omega
      · have HC := hd (hc 2 hr)
        have HF := hd (HE.out.trans (endB_step HA.out h2))
        have g1 : (bits BinOp.and IntKind.i64 2 2 != 0) = true := by decide
        clear hc HK HE HO
        go_wp2_with fail
        go_quiet ((go_at_call 101; exact quiet_of_pure (HC.out _)))
        obtain ⟨HO2, HK2⟩ := HKO.out nq
        have HO2 := hd HO2
        have HK2 := hd HK2
        obtain ⟨y0, y1, y2⟩ := HK2.out.cells
        have HK3 := hd (HK2.out.set (k + 1))
        have HP3 := hd HK3.out.rpos_eq
        go_wp2
        go_roundw
        case rel => exact ⟨k + 1, by omega, by omega, by have := HK3; simpa using this, HF, hd (HO2.out.set 1 _)⟩
        case measure => rw [show ((k : Int) + 1) = ((k + 1 : Nat) : Int) by omega, HP3.out, hpos]; omega
      · have HC := hd (hc 0 hr)
        have g1 : (bits BinOp.and IntKind.i64 0 2 != 0) = false := by decide
        have HF := hd (show endL isVal s.data.toList i = k from HE.out.trans (endB_stop fun c h => by rw [HA.out] at h; injection h with h; rw [← h]; exact h2))
        clear hc HK HE HO
        go_wp2_with fail
        go_quiet ((go_at_call 101; exact quiet_of_pure (HC.out _)))
        obtain ⟨HO2, HK2⟩ := HKO.out nq
        have hIO := hd HO2
        have hIK := hd HK2
        clear x0 x1 x2 HKO HO2 HK2
        generalize wr.drewN nq = W2 at hIO hIK ⊢
        obtain ⟨y0, y1, y2⟩ := hIK.out.cells
        have HX := hd (ex_mk s i k)
        have hxs := mkB_cut_size s i k hk2
        have HC2 := hd (fun (w2 : World) => sclone_any (mkB (cutS s.data.toList i k)) w2 (by omega))
        have hsz := hIO.out.size
        have hik : (i : Int) ≤ (k : Int) := by omega
        have hks : (k : Int) ≤ (s.size : Int) := by omega
        clear hxs
        go_wp2_with fail
        go_still_tail 10, (by kernel_rfl)
        rw [HX.out]
        show wpList _ _ _ _ _ W2.drew
        go_wp2_with fail
        refine (HC2.out _).mono ?_
        rintro e w2 ⟨rfl, hb2⟩
        go_wp2
        go_ret
        rw [HF.out]
        exact ⟨rfl, (hIK.out.below ((Below.refl _ _).drew)).below hb2, (hIO.out.trans (.of_below ((Below.refl _ _).drew) hsz)).trans (.of_below hb2 hsz)⟩
    · have hlt' : decide (k < s.size) = false := decide_eq_false hlt
      have HF := hd (show endL isVal s.data.toList i = k from HE.out.trans (endB_stop fun c h => by rw [atB_none (by omega)] at h; cases h))
      clear HK HE HO hlt
      go_wp2_with fail
      go_quiet (fail)
      obtain ⟨HO2, HK2⟩ := HKO.out nq
      have hIO := hd HO2
      have hIK := hd HK2
      clear x0 x1 x2 HKO HO2 HK2
      generalize wr.drewN nq = W2 at hIO hIK ⊢
      obtain ⟨y0, y1, y2⟩ := hIK.out.cells
      have HX := hd (ex_mk s i k)
      have hxs := mkB_cut_size s i k hk2
      have HC2 := hd (fun (w2 : World) => sclone_any (mkB (cutS s.data.toList i k)) w2 (by omega))
      have hsz := hIO.out.size
      have hik : (i : Int) ≤ (k : Int) := by omega
      have hks : (k : Int) ≤ (s.size : Int) := by omega
      clear hxs
      go_wp2_with fail
      go_still_tail 10, (by kernel_rfl)
      rw [HX.out]
      show wpList _ _ _ _ _ W2.drew
      go_wp2_with fail
      refine (HC2.out _).mono ?_
      rintro e w2 ⟨rfl, hb2⟩
      go_wp2
      go_ret
      rw [HF.out]
      exact ⟨rfl, (hIK.out.below ((Below.refl _ _).drew)).below hb2, (hIO.out.trans (.of_below ((Below.refl _ _).drew) hsz)).trans (.of_below hb2 hsz)⟩

end Go.Proofs.YtknkclbjocfhiaaDoor

namespace Go.Proofs.YtknkclbjocfhiaaDoor
open Go.RowKit

section
variable {P : Program} {ops : Array Oper} {Q : Exit → Act → World → Prop} {S : World → Prop} {z : Nat → Bool}
/-- Whatever order is picked from here on; S holds behind every operation but those that z names. -/
def wpAnyY (P : Program) (ops : Array Oper) (Q : Exit → Act → World → Prop) (S : World → Prop) (z : Nat → Bool) : Nat → Array Bool → Act → World → Prop
  | 0, listed, a, w => Region.ready .any ops listed = [] ∧ Q .normal a w
  | n + 1, listed, a, w => (Region.ready .any ops listed = [] → Q .normal a w) ∧
      ∀ i ∈ Region.ready .any ops listed, wpOp P ops Q i (fun a' w' => (z i = false → S w') ∧ wpAnyY P ops Q S z n (listed.setIfInBounds i true) a' w') a w
set_option maxRecDepth 4000 in
theorem any_of_Y : ∀ (n : Nat) (listed : Array Bool) (a : Act) (w : World), wpAnyY P ops Q S z n listed a w → wpAny P .any ops Q n listed a w
  | 0, _, _, _, h => h
  | n + 1, _, _, _, h => ⟨h.1, fun i hi => wpOp_mono (fun a' w' h' => any_of_Y n _ a' w' h'.2) (h.2 i hi)⟩
/-- Each of the operations that z names waits for operation i. -/
def waitsY (ops : Array Oper) (z : Nat → Bool) (i : Nat) : Bool := (List.range ops.size).all fun j => !z j || match ops[j]? with
  | some o => o.after.toList.any fun e => Region.binds .any e && e.on == i
  | none => false
set_option maxRecDepth 4000 in
theorem waits_at {i j : Nat} {o : Oper} (h : waitsY ops z i = true) (hj : ops[j]? = some o) (hz : z j = true) : ∃ e ∈ o.after, Region.binds .any e = true ∧ e.on = i := by
  have hl := (Array.getElem?_eq_some_iff.1 hj).1
  have h1 := List.all_eq_true.1 h j (List.mem_range.2 hl)
  rw [hz, hj] at h1
  simp only [Bool.not_true, Bool.false_or] at h1
  obtain ⟨x, hx, hx2⟩ := List.any_eq_true.1 h1
  simp only [Bool.and_eq_true, beq_iff_eq] at hx2
  exact ⟨x, by simpa using hx, hx2.1, hx2.2⟩
set_option maxRecDepth 4000 in
/-- What z waits for, and yields the same in every world that meets S, may be taken first. -/
theorem Y_first {i : Nat} {oi : Oper} {v : Value} (hi : ops[i]? = some oi) (hsel : Region.noSelect ops = true) (hz : waitsY ops z i = true)
    (hQ : ∀ c a w, Q (.panic c) (a.put oi.dst v) w → Q (.panic c) a w) :
    ∀ (n : Nat) (listed : Array Bool) (a : Act) (w : World),
      (∀ j oj, ops[j]? = some oj → j ≠ i → listed.getD j true = false → (∀ e ∈ oj.after, Region.binds .any e = true → e.on ≠ i) → oi.apart ops oj = true) →
      i ∈ Region.ready .any ops listed → YieldsIf P ops S oi v a → S w →
      wpAnyY P ops Q S z n (listed.setIfInBounds i true) (a.put oi.dst v) w → wpAnyY P ops Q S z (n + 1) listed a w := by
  have sel := Region.noSelect_spec hsel
  intro n
  induction n with
  | zero =>
    intro listed a w _ hr hy hS H
    refine ⟨fun h => absurd hr (by rw [h]; simp), fun j hj => ?_⟩
    rcases Classical.em (j = i) with e | e
    · subst e; exact hy.wpOp hi hS ⟨fun _ => hS, H⟩
    · have := ready_mono hj e
      rw [H.1] at this; cases this
  | succ n ih =>
    intro listed a w hfree hr hy hS H
    refine ⟨fun h => absurd hr (by rw [h]; simp), fun j hj => ?_⟩
    rcases Classical.em (j = i) with e | e
    · subst e; exact hy.wpOp hi hS ⟨fun _ => hS, H⟩
    · obtain ⟨hjun, oj, hoj, hall⟩ := mem_ready.1 hj
      have hiun := (mem_ready.1 hr).1
      have hno : ∀ e ∈ oj.after, Region.binds .any e = true → e.on ≠ i := fun x hx hb heq => by
        have h1 := hall x hx hb
        rw [heq] at h1
        rcases Nat.lt_or_ge i listed.size with h' | h'
        · simp [h'] at hiun h1; rw [hiun] at h1; cases h1
        · simp [Array.getElem?_eq_none h'] at h1
      have hjz : z j = false := by
        cases ez : z j with
        | false => rfl
        | true =>
          obtain ⟨x, hx, hx2, hx3⟩ := waits_at hz hoj ez
          exact absurd hx3 (hno x hx hx2)
      have h2 := wpOp_putIf hoj (hfree j oj hoj e hjun hno) (fun cs b => sel i oi cs b hi) (fun cs b => sel j oj cs b hoj) hQ hy (H.2 j (ready_mono hj e))
      refine wpOp_mono (fun a' w' h3 => ⟨h3.2.1, ih (listed.setIfInBounds j true) a' w' (fun k ok hk hki hun hn => hfree k ok hk hki ?_ hn) (ready_mono hr (Ne.symm e)) h3.1 (h3.2.1 hjz) ?_⟩) h2
      · rcases Classical.em (j = k) with ek | ek
        · subst ek; exact hjun
        · rw [getD_set_ne true ek] at hun; exact hun
      · rw [Array.setIfInBounds_comm _ _ e]; exact h3.2.2
set_option maxRecDepth 4000 in
/-- What yields the same in every world may be taken first. -/
theorem Y_free {i : Nat} {oi : Oper} {v : Value} (hzi : z i = true) (hi : ops[i]? = some oi) (hsel : Region.noSelect ops = true)
    (hQ : ∀ c a w, Q (.panic c) (a.put oi.dst v) w → Q (.panic c) a w) :
    ∀ (n : Nat) (listed : Array Bool) (a : Act) (w : World),
      (∀ j oj, ops[j]? = some oj → j ≠ i → listed.getD j true = false → (∀ e ∈ oj.after, Region.binds .any e = true → e.on ≠ i) → oi.apart ops oj = true) →
      i ∈ Region.ready .any ops listed → YieldsIf P ops (fun _ => True) oi v a →
      wpAnyY P ops Q S z n (listed.setIfInBounds i true) (a.put oi.dst v) w → wpAnyY P ops Q S z (n + 1) listed a w := by
  have sel := Region.noSelect_spec hsel
  intro n
  induction n with
  | zero =>
    intro listed a w _ hr hy H
    refine ⟨fun h => absurd hr (by rw [h]; simp), fun j hj => ?_⟩
    rcases Classical.em (j = i) with e | e
    · subst e; exact hy.wpOp hi trivial ⟨fun h => absurd (hzi.symm.trans h) (by simp), H⟩
    · have := ready_mono hj e
      rw [H.1] at this; cases this
  | succ n ih =>
    intro listed a w hfree hr hy H
    refine ⟨fun h => absurd hr (by rw [h]; simp), fun j hj => ?_⟩
    rcases Classical.em (j = i) with e | e
    · subst e; exact hy.wpOp hi trivial ⟨fun h => absurd (hzi.symm.trans h) (by simp), H⟩
    · obtain ⟨hjun, oj, hoj, hall⟩ := mem_ready.1 hj
      have hiun := (mem_ready.1 hr).1
      have hno : ∀ e ∈ oj.after, Region.binds .any e = true → e.on ≠ i := fun x hx hb heq => by
        have h1 := hall x hx hb
        rw [heq] at h1
        rcases Nat.lt_or_ge i listed.size with h' | h'
        · simp [h'] at hiun h1; rw [hiun] at h1; cases h1
        · simp [Array.getElem?_eq_none h'] at h1
      have h2 := wpOp_putIf hoj (hfree j oj hoj e hjun hno) (fun cs b => sel i oi cs b hi) (fun cs b => sel j oj cs b hoj) hQ hy (H.2 j (ready_mono hj e))
      refine wpOp_mono (fun a' w' h3 => ⟨h3.2.1, ih (listed.setIfInBounds j true) a' w' (fun k ok hk hki hun hn => hfree k ok hk hki ?_ hn) (ready_mono hr (Ne.symm e)) h3.1 ?_⟩) h2
      · rcases Classical.em (j = k) with ek | ek
        · subst ek; exact hjun
        · rw [getD_set_ne true ek] at hun; exact hun
      · rw [Array.setIfInBounds_comm _ _ e]; exact h3.2.2
set_option maxRecDepth 4000 in
theorem Y_take {i : Nat} {oi : Oper} (v : Value) {n : Nat} {listed : Array Bool} {a : Act} {w : World} (hi : ops[i]? = some oi) (hs : Region.noSelect ops = true) (hz : waitsY ops z i = true) (hf : Region.free .any ops listed i = true) (hr : (Region.ready .any ops listed).contains i = true)
    (hQ : ∀ c a w, Q (.panic c) (a.put oi.dst v) w → Q (.panic c) a w) (hw : Region.wanted oi (yielded ops a.tmps) = true) (hy : ∀ w, S w → (execOp a.eval oi).run P w = .ok (.value v) w) (hS : S w)
    (h : wpAnyY P ops Q S z n (listed.setIfInBounds i true) (a.put oi.dst v) w) : wpAnyY P ops Q S z (n + 1) listed a w :=
  Y_first hi hs hz hQ n listed a w (Region.free_spec hi hf) (by simpa using hr) (.inl ⟨hw, hy⟩) hS h
set_option maxRecDepth 4000 in
theorem Y_pure {i : Nat} {oi : Oper} (v : Value) {n : Nat} {listed : Array Bool} {a : Act} {w : World} (hzi : z i = true) (hi : ops[i]? = some oi) (hs : Region.noSelect ops = true) (hf : Region.free .any ops listed i = true) (hr : (Region.ready .any ops listed).contains i = true)
    (hQ : ∀ c a w, Q (.panic c) (a.put oi.dst v) w → Q (.panic c) a w) (hw : Region.wanted oi (yielded ops a.tmps) = true) (hy : ∀ w, (execOp a.eval oi).run P w = .ok (.value v) w)
    (h : wpAnyY P ops Q S z n (listed.setIfInBounds i true) (a.put oi.dst v) w) : wpAnyY P ops Q S z (n + 1) listed a w :=
  Y_free hzi hi hs hQ n listed a w (Region.free_spec hi hf) (by simpa using hr) (.inl ⟨hw, fun w _ => hy w⟩) h
set_option maxRecDepth 4000 in
/-- Just two may come up. -/
theorem Y_two {i j : Nat} {o p : Oper} {n : Nat} {listed : Array Bool} {a : Act} {w : World} (hr : Region.ready .any ops listed = [i, j]) (hi : ops[i]? = some o) (hj : ops[j]? = some p)
    (h : ∀ K : Act → World → Prop, (∀ a' w', (z i = false → S w') → wpAnyY P ops Q S z n (listed.setIfInBounds i true) a' w' → K a' w') → if Region.wanted o (yielded ops a.tmps) = true then Oper.wp P o a w K Q else False)
    (h' : ∀ K : Act → World → Prop, (∀ a' w', (z j = false → S w') → wpAnyY P ops Q S z n (listed.setIfInBounds j true) a' w' → K a' w') → if Region.wanted p (yielded ops a.tmps) = true then Oper.wp P p a w K Q else False) : wpAnyY P ops Q S z (n + 1) listed a w := by
  refine ⟨fun e => absurd (e.symm.trans hr) (by simp), fun k hk => ?_⟩
  rw [hr] at hk
  rcases List.mem_cons.1 hk with rfl | hk
  · have h1 := h (fun a' w' => (z k = false → S w') ∧ wpAnyY P ops Q S z n (listed.setIfInBounds k true) a' w') (fun a' w' h1 h2 => ⟨h1, h2⟩)
    unfold wpOp
    simp only [hi]
    split
    · rename_i hw
      rw [if_pos hw] at h1
      exact .inl h1
    · rename_i hw
      rw [if_neg hw] at h1
      exact h1.elim
  · rw [List.mem_singleton] at hk
    subst hk
    have h1 := h' (fun a' w' => (z k = false → S w') ∧ wpAnyY P ops Q S z n (listed.setIfInBounds k true) a' w') (fun a' w' h1 h2 => ⟨h1, h2⟩)
    unfold wpOp
    simp only [hj]
    split
    · rename_i hw
      rw [if_pos hw] at h1
      exact .inl h1
    · rename_i hw
      rw [if_neg hw] at h1
      exact h1.elim
set_option maxRecDepth 4000 in
/-- Just one may come up. -/
theorem Y_one {i : Nat} {o : Oper} {n : Nat} {listed : Array Bool} {a : Act} {w : World} (hr : Region.ready .any ops listed = [i]) (hi : ops[i]? = some o)
    (h : ∀ K : Act → World → Prop, (∀ a' w', (z i = false → S w') → wpAnyY P ops Q S z n (listed.setIfInBounds i true) a' w' → K a' w') → if Region.wanted o (yielded ops a.tmps) = true then Oper.wp P o a w K Q else False) : wpAnyY P ops Q S z (n + 1) listed a w := by
  refine ⟨fun e => absurd (e.symm.trans hr) (by simp), fun j hj => ?_⟩
  rw [hr, List.mem_singleton] at hj
  subst hj
  have h1 := h (fun a' w' => (z j = false → S w') ∧ wpAnyY P ops Q S z n (listed.setIfInBounds j true) a' w') (fun a' w' h1 h2 => ⟨h1, h2⟩)
  unfold wpOp
  simp only [hi]
  split
  · rename_i hw
    rw [if_pos hw] at h1
    exact .inl h1
  · rename_i hw
    rw [if_neg hw] at h1
    exact h1.elim
set_option maxRecDepth 4000 in
theorem Y_done {n : Nat} {listed : Array Bool} {a : Act} {w : World} (hr : Region.ready .any ops listed = []) (h : Q .normal a w) : wpAnyY P ops Q S z n listed a w := by
  cases n with
  | zero => exact ⟨hr, h⟩
  | succ n => exact ⟨fun _ => h, by rw [hr]; simp⟩
set_option maxRecDepth 4000 in
theorem Y_start {id : Nat} {a : Act} {w : World} (hm : P.follows .mixedOrders = true) (h : wpAnyY P ops Q S z ops.size (Array.replicate ops.size false) a w.drew) : (Code.region id ops true).wp P Q a w :=
  wp_region_any hm (any_of_Y _ _ _ _ h)
end

end Go.Proofs.YtknkclbjocfhiaaDoor

namespace Go.Proofs.YtknkclbjocfhiaaDoor
open Go.RowKit
open Go.WideShapes (add_plain)

theorem rowFree {t : TypeId} {size n : Nat} {v : Value} {xs : List Value} {w : World} {base : Nat} (h : w.ownsRow base t size v n xs) : ∃ A c, v = .slice A n c ∧ n ≤ c ∧ c ≤ maxLen ∧ ∀ k u, xs[k]? = some u → ∃ g, A = some ⟨g, 0, none⟩ ∧ base ≤ g ∧ g < w.heap.size ∧ Free w g k u := by
  rcases h.2 with ⟨e, h0⟩ | ⟨g, cap, cur, e, hb, hh, h1, h2, _⟩
  · refine ⟨none, 0, by rw [e, h0], by omega, by unfold maxLen; omega, fun k u hu => ?_⟩
    have := (List.getElem?_eq_some_iff.1 hu).1
    rw [h.1, h0] at this
    omega
  · refine ⟨some ⟨g, 0, none⟩, cap, e, h1, h2, fun k u hu => ⟨g, rfl, hb, lt_of_block hh, ?_, by simp [World.frozen?, hh]⟩⟩
    have := h.cells (g := g) (by rw [e]; rfl) k u hu
    rwa [add_plain, Nat.zero_add] at this
set_option maxRecDepth 4000 in
theorem rowVP {P : Nat → Prop} {t : TypeId} {size n c : Nat} {A : Option Addr} {xs : List Value} {w : World} {base : Nat} (h : w.ownsRow base t size (.slice A n c) n xs) (hP : ∀ g, (Value.slice A n c).ownBlock = some g → P g) : VP P w A xs := fun k u hu => by
  obtain ⟨A', c', e, _, _, hf⟩ := rowFree h
  injection e with e1 e2 e3
  subst e1
  obtain ⟨g, e, _, _, h4⟩ := hf k u hu
  subst e
  exact ⟨g, 0, rfl, hP g rfl, by rw [Nat.zero_add]; exact h4⟩
set_option maxRecDepth 4000 in
theorem row_cells {t : TypeId} {size n c : Nat} {g : Nat} {xs : List Value} {w : World} {base : Nat} (h : w.ownsRow base t size (.slice (some ⟨g, 0, none⟩) n c) n xs) {k : Nat} {u : Value} (hu : xs[k]? = some u) : w.cell? ⟨g, k, none⟩ = some u ∧ w.frozen? ⟨g, k, none⟩ = false := by
  have hc := h.cells (g := g) rfl k u hu
  exact ⟨by rwa [add_plain, Nat.zero_add] at hc, h.frozenAt k⟩
set_option maxRecDepth 4000 in
theorem new_cells' (W : World) (cs : List Value) (tb : TypeId) : ∀ j u, cs[j]? = some u → (W.alloc (.cells cs.toArray tb)).cell? ((⟨W.heap.size, 0, none⟩ : Addr).add j) = some u := fun j u hu => by
  rw [add_plain, Nat.zero_add, World.cell?_alloc_at _ _ _ _ rfl]
  simpa using hu
set_option maxRecDepth 4000 in
theorem wpList_app1 {ts te tb : TypeId} {size by_ : Nat} (E : ElemG ts te size by_) (W : World) {ops : Array Oper} {rest : List Oper} {o : Oper} {a : Act} {Q : Exit → Act → World → Prop} (hgd : o.guard = none) (s x : Operand)
    (ho : o.op = .call { callee := .builtin .append, args := #[s, x], argTypes := #[ts, ts] })
    (b : Nat) (v : Value) (n : Nat) (k cs : List Value) (hs : a.eval s = v) (hO : W.ownsRow b te size v n k) (hx : a.eval x = .slice (some ⟨W.heap.size, 0, none⟩) 1 1) (hn : cs.length = size) (h1 : ∀ u ∈ cs, u.oneCell' = true)
    (h63 : n ≤ 1000000) (hby : by_ ≤ 100) (hb : b ≤ W.heap.size)
    (hK : ∀ A' c' w', w'.ownsRow b te size (.slice A' (n + 1) c') (n + 1) (k ++ cs) → (W.alloc (.cells cs.toArray tb)).grownBy w' v.ownBlock → ((Value.slice A' (n + 1) c').ownBlock = v.ownBlock ∨ ∃ g, (Value.slice A' (n + 1) c').ownBlock = some g ∧ W.heap.size + 1 ≤ g) → wpList Tryd.prog ops Q rest (a.put o.dst (.slice A' (n + 1) c')) w') :
    wpList Tryd.prog ops Q (o :: rest) a (W.alloc (.cells cs.toArray tb)) := by
  obtain ⟨i0, z, hi, hz0, hz1, hz2, hz3⟩ := E.info
  have hsz := E.pos
  have hmul : (n + 1) * by_ ≤ 1000001 * 100 := Nat.mul_le_mul (by omega) hby
  refine wpList_plain hgd fun K hK2 => ?_
  refine wp_append_lies (W.alloc (.cells cs.toArray tb)) s x ts ho b te i0 z size by_ E.under hi hz0 hz1 hz2 hz3 hsz v n k hs (hO.alloc _) ⟨W.heap.size, 0, none⟩ 1 1 cs hx (by rw [hn, Nat.one_mul]) (new_cells' W cs tb) h1 (by omega) (by unfold maxLen; omega) (by omega) (by simp; omega) (W.heap.size + 1) (by simp) (fun g cap w' h1 h2 h3 _ => hK2 _ _ (hK _ cap w' h1 h2 ?_))
  rcases h3 with e | e
  · exact .inl (by rw [e]; rfl)
  · exact .inr ⟨g, rfl, by omega⟩
set_option maxRecDepth 4000 in
/-- As one operation of a region that draws. -/
theorem step_app1 {ts te tb : TypeId} {size by_ : Nat} (E : ElemG ts te size by_) (W : World) {ops : Array Oper} {o : Oper} {a : Act} {K : Act → World → Prop} {Q : Exit → Act → World → Prop} {F : Prop} (hgd : o.guard = none) (s x : Operand)
    (ho : o.op = .call { callee := .builtin .append, args := #[s, x], argTypes := #[ts, ts] })
    (b : Nat) (v : Value) (n : Nat) (k cs : List Value) (hs : a.eval s = v) (hO : W.ownsRow b te size v n k) (hx : a.eval x = .slice (some ⟨W.heap.size, 0, none⟩) 1 1) (hn : cs.length = size) (h1 : ∀ u ∈ cs, u.oneCell' = true)
    (h63 : n ≤ 1000000) (hby : by_ ≤ 100) (hb : b ≤ W.heap.size)
    (hK : ∀ A' c' w', w'.ownsRow b te size (.slice A' (n + 1) c') (n + 1) (k ++ cs) → (W.alloc (.cells cs.toArray tb)).grownBy w' v.ownBlock → ((Value.slice A' (n + 1) c').ownBlock = v.ownBlock ∨ ∃ g, (Value.slice A' (n + 1) c').ownBlock = some g ∧ W.heap.size + 1 ≤ g) → K (a.put o.dst (.slice A' (n + 1) c')) w') :
    if Region.wanted o (yielded ops a.tmps) = true then Oper.wp Tryd.prog o a (W.alloc (.cells cs.toArray tb)) K Q else F := by
  have hw : Region.wanted o (yielded ops a.tmps) = true := by simp [Region.wanted, hgd]
  rw [if_pos hw]
  obtain ⟨i0, z, hi, hz0, hz1, hz2, hz3⟩ := E.info
  have hsz := E.pos
  have hmul : (n + 1) * by_ ≤ 1000001 * 100 := Nat.mul_le_mul (by omega) hby
  refine wp_append_lies (W.alloc (.cells cs.toArray tb)) s x ts ho b te i0 z size by_ E.under hi hz0 hz1 hz2 hz3 hsz v n k hs (hO.alloc _) ⟨W.heap.size, 0, none⟩ 1 1 cs hx (by rw [hn, Nat.one_mul]) (new_cells' W cs tb) h1 (by omega) (by unfold maxLen; omega) (by omega) (by simp; omega) (W.heap.size + 1) (by simp) (fun g cap w' h1 h2 h3 _ => hK _ cap w' h1 h2 ?_)
  rcases h3 with e | e
  · exact .inl (by rw [e]; rfl)
  · exact .inr ⟨g, rfl, by omega⟩
set_option maxRecDepth 4000 in
/-- What a row that grew leaves of the others. -/
theorem grown_off {W w' : World} {o : Option Nat} {B R : Nat} (h : W.grownBy w' o) (hB : B ≤ W.heap.size) (ho : ∀ g, o = some g → B ≤ g) : ∀ k, k < B → k ≠ R → w'.heap[k]? = W.heap[k]? := fun k hk _ => h.block k (by omega) (fun e => by have := ho k e.symm; omega)

end Go.Proofs.YtknkclbjocfhiaaDoor

namespace Go.Proofs.YtknkclbjocfhiaaDoor
open Go.RowKit

theorem chk_mem {l : List Pr} (h : chk l = 0) : ∀ p ∈ l, keyB p.1 = true ∧ valB p.2 = true := fun p hp => by
  obtain ⟨k, hk, rfl⟩ := List.mem_iff_getElem.1 hp
  have e : l.take (k + 1) = l.take k ++ [l[k]] := by rw [List.take_add_one, List.getElem?_eq_getElem hk]; rfl
  have h1 : chk (l.take (k + 1) ++ l.drop (k + 1)) = 0 := by rw [List.take_append_drop]; exact h
  have h2 := chk_prefix h1
  rw [e] at h2
  exact chk_last h2
set_option maxRecDepth 4000 in
theorem chk_wide {l : List Pr} (h : chk l = 0) (p : Pr) (h1 : p.1.size ≤ 1000000) (h2 : p.2.size ≤ 1000000) : Wide (l ++ [p]) := by
  have hl := chk_len h
  refine ⟨by simp; omega, fun q hq => ?_⟩
  rcases List.mem_append.1 hq with hq | hq
  · obtain ⟨a, b⟩ := chk_mem h q hq
    have := (keyB_parts a).2.1
    have := (valB_parts b).1
    omega
  · rw [List.mem_singleton] at hq; subst hq; omega
set_option maxRecDepth 4000 in
theorem mkB_empty (l : List UInt8) : (mkB l).toList.isEmpty = l.isEmpty := by rw [ByteArray.toList_eq, mkB_data]
set_option maxRecDepth 4000 in
theorem rowPL {w : World} {B n c : Nat} {A : Option Addr} {ps : List Pr} (h : w.ownsRow B 50 2 (.slice A n c) n (pv ps)) : PL w w.heap.size A ps :=
  (rowVP (P := fun b => b < w.heap.size) h fun g hg => (h.lt g hg).2).pl fun _ hb => hb

set_option maxRecDepth 4000 in
theorem row_off {w w' : World} {B R C : Nat} {t : TypeId} {size n : Nat} {v : Value} {xs : List Value} (h : w.ownsRow B t size v n xs) (hR : R < B) (ho : OffB R C w w') (hC : C = w.heap.size := by rfl) : w'.ownsRow B t size v n xs := by
  subst hC
  refine ⟨h.1, ?_⟩
  rcases h.2 with h4 | ⟨g, cap, cur, e2, hbg, hg, rest⟩
  · exact .inl h4
  · exact .inr ⟨g, cap, cur, e2, hbg, by rw [ho.block g (Array.getElem?_eq_some_iff.1 hg).1 (by omega)]; exact hg, rest⟩

/-- What oneMore leaves: below B nothing but the reader has changed. -/
def More (B R : Nat) (s : ByteArray) (ps : List Pr) (r : Res Pr) (w : World) (e : Ending) (w' : World) : Prop :=
  OffB R B w w' ∧ match r with
  | .bad p er => e = .returned (.tuple #[.slice none 0 0, .int .i64 er]) ∧ Rd R s p w'
  | .ok p j => Rd R s j w' ∧ ∃ A c, e = .returned (.tuple #[.slice A (ps.length + 1) c, .int .i64 0]) ∧ w'.ownsRow B 50 2 (.slice A (ps.length + 1) c) (ps.length + 1) (pv (ps ++ [p]))

set_option maxRecDepth 4000 in
set_option maxHeartbeats 8000000 in
theorem oneMore_any (B R : Nat) (s : ByteArray) (i : Nat) (w : World) (A : Option Addr) (c : Nat) (ps : List Pr) (h : Rd R s i w) (hi : i ≤ s.size) (hs : s.size ≤ 1000000) (hrow : w.ownsRow B 50 2 (.slice A ps.length c) ps.length (pv ps)) (hps : chk ps = 0) (hR : R < B) (hB : B ≤ w.heap.size) :
    Calls Tryd.prog 88 #[.pointer (some ⟨R, 0, none⟩), .slice A ps.length c] w (More B R s ps (propP s.data.toList ps i) w) := by
  have hl16 := chk_len hps
  obtain ⟨x0, x1, x2⟩ := h.cells
  have HC1 := hd (wordKey_any R s i w h hi hs)
  obtain ⟨j, hj⟩ : ∃ j, j = endL isLet s.data.toList i := ⟨_, rfl⟩
  have hj1 : i ≤ j := by rw [hj]; exact endL_ge _ _ _
  have hj2 : j ≤ s.size := by rw [hj]; exact endB_le hi
  rw [← hj] at HC1
  obtain ⟨K, hK⟩ : ∃ K, K = mkB (cutS s.data.toList i j) := ⟨_, rfl⟩
  rw [← hK] at HC1
  have hKs : K.size = j - i := by rw [hK]; exact mkB_cut_size s i j hj2
  have hKe : K.toList.isEmpty = decide (j = i) := by
    rw [hK, mkB_empty]
    have := cutS_len s.data.toList i j (by rw [data_size]; exact hj2)
    cases hc : cutS s.data.toList i j with
    | nil => rw [hc] at this; simp at this; simp; omega
    | cons a l => rw [hc] at this; simp at this; simp; omega
  have HR := hd h
  have HW := hd hrow
  have HP := hd hps
  have HJ := hd hj
  have HKK := hd hK
  clear h hrow hps hK
  by_cases hji : j = i
  · have hF : propP s.data.toList ps i = .bad i 11 := by unfold propP; rw [if_pos (by rw [← hj]; exact hji)]
    rw [hF]
    have hKe2 : K.toList.isEmpty = true := by rw [hKe]; simp [hji]
    clear hj hKe hF
    go_enter Tryd.func88, Tryd.ntmps88
    go_wp2_with fail
    refine HC1.out.mono ?_
    rintro e w1 ⟨rfl, hr1, ho1⟩
    go_wp2
    go_ret2
    exact ⟨ho1.less hB, rfl, hji ▸ hr1⟩
  · have hKe2 : K.toList.isEmpty = false := by rw [hKe]; simp [hji]
    by_cases h58 : atB s j = some 58
    · obtain ⟨m, hm⟩ : ∃ m, m = endL isVal s.data.toList (j + 1) := ⟨_, rfl⟩
      have hjl := atB_lt h58
      have hm1 : j + 1 ≤ m := by rw [hm]; exact endL_ge _ _ _
      have hm2 : m ≤ s.size := by rw [hm]; exact endB_le hjl
      obtain ⟨V, hV⟩ : ∃ V, V = mkB (cutS s.data.toList (j + 1) m) := ⟨_, rfl⟩
      have hVs : V.size = m - (j + 1) := by rw [hV]; exact mkB_cut_size s _ m hm2
      have HPr := hd (show prOf s.data.toList i = (K, V) by unfold prOf; rw [← hj, ← hm, HKK.out, hV])
      have HWd := hd (chk_wide HP.out (K, V) (by show K.size ≤ _; omega) (by show V.size ≤ _; omega))
      obtain ⟨E, hE⟩ : ∃ E, E = chk (ps ++ [(K, V)]) := ⟨_, rfl⟩
      have HF := hd (show propP s.data.toList ps i = if E ≠ 0 then .bad i E else .ok (K, V) m by
        unfold propP
        rw [if_neg (by rw [← hj]; exact hji), ← hj, if_neg (by rw [show s.data.toList[j]? = some 58 from h58]; simp), HPr.out, ← hE, ← hm])
      have H58 := hd h58
      have HE := hd hE
      have HM := hd hm
      have HV := hd hV
      clear hj hKe hV hm h58 hE
      go_enter Tryd.func88, Tryd.ntmps88
      go_wp2_with fail
      refine HC1.out.mono ?_
      rintro e w1 ⟨rfl, hr1, ho1⟩
      have hz1 := ho1.size
      have HO1 := hd (ho1.less hB)
      have HW1 := hd (row_off HW.out hR ho1)
      have HC2 := hd (take_yes R s j 58 58 rfl w1 hr1 hs H58.out)
      clear hr1 ho1
      go_wp2_with fail
      refine HC2.out.mono ?_
      rintro e w2 ⟨rfl, hr2, ho2⟩
      have hz2 := ho2.size
      have HO2 := hd (HO1.out.trans (ho2.less (by omega)))
      have HW2 := hd (row_off HW1.out hR ho2)
      have HC3 := hd (wordVal_any R s (j + 1) w2 hr2 hjl hs)
      rw [← HM.out, ← HV.out] at HC3
      clear hr2 ho2
      go_wp2_with fail
      refine HC3.out.mono ?_
      rintro e w3 ⟨rfl, hr3, ho3⟩
      have hz3 := ho3.size
      have HO3 := hd (HO2.out.trans (ho3.less (by omega)))
      have HW3 := hd (row_off HW2.out hR ho3)
      have HR3 := hd hr3
      clear hr3 ho3 HC1 HC2 HC3
      have one : ∀ u ∈ [Value.string K, .string V], u.oneCell' = true := by intro u hu; simp at hu; rcases hu with rfl | rfl <;> rfl
      go_wp2_with (at_builtin; refine wpList_app1 propG w3 rfl (.tmp 22) (.tmp 27) rfl B (.slice A ps.length c) ps.length (pv ps) [.string K, .string V] rfl HW3.out rfl rfl one (by omega) (by decide) (by omega) ?_; intro A4 c4 w4 hown4 hgrow4 hat4)
      have e4 : pv ps ++ [Value.string K, .string V] = pv (ps ++ [(K, V)]) := by simp [pv]
      rw [e4] at hown4
      have hg4 : ∀ g, (Value.slice A ps.length c).ownBlock = some g → B ≤ g := fun g e => (HW3.out.lt g e).1
      have hz4 := hgrow4.size
      have ho4 : OffB R B w w4 := by
        have h3 := HO3.out.alloc (.cells #[.string K, .string V] 50) (by omega)
        refine ⟨hgrow4.os.trans h3.os, hgrow4.tape.trans h3.tape, hgrow4.output.trans h3.output, Nat.le_trans h3.size hz4, fun k hk hr => ?_⟩
        exact (grown_off (R := R) hgrow4 (by simp; omega) hg4 k hk hr).trans (h3.block k hk hr)
      have hr4 : Rd R s m w4 := by
        refine ⟨?_⟩
        rw [hgrow4.block R (by have := HR3.out.lt; simp; omega) (fun e => by have := hg4 R e.symm; omega), Below.heap_alloc _ _ _ HR3.out.lt]
        exact HR3.out.blk
      have HC4 := hd (pcheck_any A4 (ps ++ [(K, V)]) c4 w4 HWd.out (rowPL hown4))
      rw [← HE.out, List.length_append] at HC4
      have HC4 := hd HC4.out
      have HR4 := hd hr4
      have HO4 := hd ho4
      have HW4 := hd hown4
      have hz4' : w3.heap.size ≤ w4.heap.size := by simp at hz4; omega
      clear e4 hown4 hgrow4 hat4 hg4 ho4 hr4 HW3 HR3 one hz4
      go_wp2_with fail
      refine HC4.out.mono ?_
      rintro e w5 ⟨rfl, hb5⟩
      have hz5 := hb5.size
      have HR5 := hd (HR4.out.below hb5)
      have HO5 := hd (HO4.out.trans (.of_below hb5 (by omega)))
      have HW5 := hd (row_off (R := R) HW4.out hR (.of_below hb5 (Nat.le_refl _)))
      clear hb5
      obtain ⟨y0, y1, y2⟩ := HR5.out.cells
      by_cases hE0 : E = 0
      · have HF2 := hd (show propP s.data.toList ps i = .ok (K, V) m by rw [HF.out, if_neg (by simp [hE0])])
        have hEb : (E != 0) = false := by simp [hE0]
        clear hE0
        go_wp2
        go_ret2
        rw [HF2.out]
        exact ⟨HO5.out, HR5.out, A4, c4, rfl, HW5.out⟩
      · have HF2 := hd (show propP s.data.toList ps i = .bad i E by rw [HF.out, if_pos hE0])
        have hEb : (E != 0) = true := by simpa using hE0
        clear hE0
        go_wp2
        go_ret2
        rw [HF2.out]
        exact ⟨HO5.out.set 1 _, rfl, HR5.out.set i⟩
    · have hF : propP s.data.toList ps i = .bad j 11 := by
        unfold propP
        rw [if_neg (by rw [← hj]; exact hji), ← hj, if_pos (show s.data.toList[j]? ≠ some 58 from h58)]
      rw [hF]
      have H58 := hd h58
      clear hj hKe hF h58
      go_enter Tryd.func88, Tryd.ntmps88
      go_wp2_with fail
      refine HC1.out.mono ?_
      rintro e w1 ⟨rfl, hr1, ho1⟩
      have hz1 := ho1.size
      have HC2 := hd (take_no R s j 58 58 rfl w1 hr1 hs H58.out)
      have HR1 := hd hr1
      have HO1 := hd ho1
      clear hr1 ho1
      go_wp2_with fail
      refine HC2.out.mono ?_
      rintro e w2 ⟨rfl, kd, rfl⟩
      go_wp2
      go_ret2
      exact ⟨(HO1.out.less hB).drewN _, rfl, HR1.out.drewN _⟩

/-- What props leaves. -/
def Propd (B R : Nat) (s : ByteArray) (r : Res (List Pr)) (w : World) (e : Ending) (w' : World) : Prop :=
  OffB R B w w' ∧ match r with
  | .bad p er => e = .returned (.tuple #[.slice none 0 0, .int .i64 er]) ∧ Rd R s p w'
  | .ok l j => Rd R s j w' ∧ ∃ A c, e = .returned (.tuple #[.slice A l.length c, .int .i64 0]) ∧ w'.ownsRow B 50 2 (.slice A l.length c) l.length (pv l)
set_option maxRecDepth 4000 in
theorem propP_ok' {s : ByteArray} {ps : List Pr} {i : Nat} {p : Pr} {m : Nat} (h : propP s.data.toList ps i = .ok p m) : chk (ps ++ [p]) = 0 ∧ i + 1 < m ∧ m ≤ s.size := by
  have := propP_ok h
  have hl := data_size s
  exact ⟨this.2.2.2.2.1, this.2.2.2.2.2.1, by omega⟩

set_option maxRecDepth 4000 in
set_option maxHeartbeats 8000000 in
theorem props_any (B R : Nat) (s : ByteArray) (i : Nat) (w : World) (h : Rd R s i w) (hi : i ≤ s.size) (hs : s.size ≤ 1000000) (hR : R < B) (hB : B ≤ w.heap.size) :
    Calls Tryd.prog 74 #[.pointer (some ⟨R, 0, none⟩)] w (Propd B R s (propsP s.data.toList [] i) w) := by
  have HR := hd h
  clear h
  go_enter Tryd.func74, Tryd.ntmps74
  go_wp2_with fail
  go_loopw [2, 3] (fun x y wr => ∃ (ps : List Pr) (k : Nat) (A : Option Addr) (c : Nat), x = .slice A ps.length c ∧ y = .int .i64 0 ∧ k ≤ s.size ∧ Hid (Rd R s k wr) ∧ Hid (wr.ownsRow B 50 2 (.slice A ps.length c) ps.length (pv ps)) ∧ Hid (chk ps = 0) ∧ Hid (propsP s.data.toList [] i = propsP s.data.toList ps k) ∧ Hid (OffB R B w wr)) (fun _ _ wr => s.size + 1 - rpos R wr)
  case atStart => exact ⟨[], i, none, 0, rfl, rfl, hi, HR, World.ownsRow_nil _ _ _ _, rfl, rfl, OffB.refl _ _ _⟩
  case round =>
    obtain ⟨ps, k, A, c, rfl, rfl, hk, HK, HW, HP, HE, HO⟩ := hrel
    have hpos := HK.out.rpos_eq
    have hzr := HO.out.size
    have HC := hd (oneMore_any B R s k wr A c ps HK.out hk hs HW.out HP.out hR (by omega))
    cases hp : propP s.data.toList ps k with
    | bad p er =>
      have HF := hd (HE.out.trans (propsP_bad hp))
      have hne := (propP_bad (by rw [data_size]; exact hk) hp).2
      have hb : (er != 0) = true := by simpa using hne
      rw [hp] at HC
      have HC := hd HC.out
      clear hp HE HW HP hne
      go_wp2_with fail
      refine HC.out.mono ?_
      intro e w1 h1
      obtain ⟨ho1, rfl, hr1⟩ := h1
      go_wp2
      go_ret2
      rw [HF.out]
      exact ⟨HO.out.trans ho1, rfl, hr1⟩
    | ok p m =>
      obtain ⟨hc1, hm1, hm2⟩ := propP_ok' hp
      have HS := hd (HE.out.trans (propsP_step hp))
      have HC1 := hd hc1
      rw [hp] at HC
      have HC := hd HC.out
      clear hp HE HW HP hc1
      go_wp2_with fail
      refine HC.out.mono ?_
      intro e w1 h1
      obtain ⟨ho1, hr1, A1, c1, rfl, hw1⟩ := h1
      have HO1 := hd (HO.out.trans ho1)
      have HR1 := hd hr1
      have HW1 := hd hw1
      have hz1 := ho1.size
      clear ho1 hr1 hw1
      by_cases h125 : atB s m = some 125
      · have HF := hd (show propsP s.data.toList [] i = .ok (ps ++ [p]) (m + 1) by rw [HS.out, if_pos (show s.data.toList[m]? = some 125 from h125)])
        have HC2 := hd (take_yes R s m 125 125 rfl w1 HR1.out hs h125)
        clear h125
        go_wp2_with fail
        refine HC2.out.mono ?_
        rintro e w2 ⟨rfl, hr2, ho2⟩
        go_wp2
        go_ret2
        rw [HF.out]
        exact ⟨HO1.out.trans (ho2.less (by omega)), hr2, A1, c1, by simp, by have := row_off HW1.out hR ho2; simpa using this⟩
      · have HC2 := hd (take_no R s m 125 125 rfl w1 HR1.out hs h125)
        go_wp2_with fail
        refine HC2.out.mono ?_
        rintro e w2 ⟨rfl, kd, rfl⟩
        have hr2 := HR1.out.drewN kd
        have HR2 := hd hr2
        by_cases h44 : atB s m = some 44
        · have HF := hd (show propsP s.data.toList [] i = propsP s.data.toList (ps ++ [p]) (m + 1) by rw [HS.out, if_neg (show ¬ s.data.toList[m]? = some 125 from h125), if_pos (show s.data.toList[m]? = some 44 from h44)])
          have hml := atB_lt h44
          have HC3 := hd (take_yes R s m 44 44 rfl (w1.drewN kd) hr2 hs h44)
          clear h44 h125 hr2
          go_wp2_with fail
          refine HC3.out.mono ?_
          rintro e w3 ⟨rfl, hr3, ho3⟩
          have hp3 := hr3.rpos_eq
          have hz3 := ho3.size
          have HO3 := hd ((HO1.out.drewN kd).trans (ho3.less (by show B ≤ w1.heap.size; omega)))
          have HR3 := hd hr3
          have HW3 := hd (row_off (C := w1.heap.size) HW1.out hR ((OffB.refl _ _ _).drewN kd |>.trans ho3))
          clear hr3 ho3
          go_wp2
          go_roundw
          case rel => exact ⟨ps ++ [p], m + 1, A1, c1, by simp, rfl, by omega, HR3, by simpa using HW3, HC1, HF, HO3⟩
          case measure => rw [hp3, hpos]; omega
        · have HF := hd (show propsP s.data.toList [] i = .bad m 11 by rw [HS.out, if_neg (show ¬ s.data.toList[m]? = some 125 from h125), if_neg (show ¬ s.data.toList[m]? = some 44 from h44)])
          have HC3 := hd (take_no R s m 44 44 rfl (w1.drewN kd) hr2 hs h44)
          clear h44 h125 hr2
          go_wp2_with fail
          refine HC3.out.mono ?_
          rintro e w3 ⟨rfl, kd3, rfl⟩
          go_wp2
          go_ret2
          rw [HF.out]
          exact ⟨HO1.out.drewN _, rfl, HR1.out.drewN _⟩

set_option maxRecDepth 4000 in
theorem idx_eq (l : List UInt8) : Lib.indexByte l 34 = if (l.takeWhile (fun b => b != 34)).length < l.length then ((l.takeWhile (fun b => b != 34)).length : Int) else -1 := by
  induction l with
  | nil => rfl
  | cons b l ih =>
    have hle := takeWhile_len (fun b => b != 34) l
    by_cases h : b = 34
    · subst h
      simp [Lib.indexByte]
    · have h1 : (b == 34) = false := by simpa using h
      have h2 : (b != 34) = true := by simpa using h
      rw [List.takeWhile_cons, if_pos h2]
      unfold Lib.indexByte
      rw [if_neg (by simp [h1]), ih]
      simp only [List.length_cons]
      obtain ⟨T, hT⟩ : ∃ T, T = (l.takeWhile (fun b => b != 34)).length := ⟨_, rfl⟩
      rw [← hT]
      by_cases h3 : T < l.length
      · have e : ((T : Int) == -1) = false := by rw [beq_eq_false_iff_ne]; omega
        rw [if_pos h3, if_pos (show T + 1 < l.length + 1 by omega), e]
        simp
      · rw [if_neg h3, if_neg (show ¬ T + 1 < l.length + 1 by omega)]; rfl
set_option maxRecDepth 4000 in
theorem OwnV.asideK {t : TypeId} {w : World} {g N k : Nat} {v x : Value} {xs : List Value} (h : OwnV t w N v xs) (hg : g < N) : OwnV t (w.setCell ⟨g, k, none⟩ x) N v xs :=
  OwnV.of_own (ownsRow_setCell_below h.own (a := ⟨g, k, none⟩) hg x) rfl
/-- What text leaves. -/
def Texted (R : Nat) (s : ByteArray) (j : Nat) (w : World) (e : Ending) (w' : World) : Prop :=
  OffB R w.heap.size w w' ∧
    ((unqS s.data.toList j).2.2 ≠ 0 → e = .returned (.tuple #[.slice none 0 0, .int .i64 (unqS s.data.toList j).2.2]) ∧ Rd R s (j + (unqS s.data.toList j).2.1.toNat) w') ∧
    ((unqS s.data.toList j).2.2 = 0 → Rd R s (qEnd s.data.toList j) w' ∧ ∃ v, e = .returned (.tuple #[v, .int .i64 0]) ∧ OwnV 21 w' w.heap.size v (rv (unqS s.data.toList j).1))

set_option maxRecDepth 4000 in
set_option maxHeartbeats 8000000 in
theorem text_any (R : Nat) (s : ByteArray) (j : Nat) (w : World) (h : Rd R s j w) (h34 : atB s j = some 34) (hs : s.size ≤ 40000) :
    Calls Tryd.prog 76 #[.pointer (some ⟨R, 0, none⟩)] w (Texted R s j w) := by
  have hjl := atB_lt h34
  obtain ⟨q, hq⟩ : ∃ q, q = qEnd s.data.toList j := ⟨_, rfl⟩
  obtain ⟨x, p, er, hu⟩ : ∃ x p er, unqS s.data.toList j = (x, p, er) := ⟨_, _, _, rfl⟩
  have hqr := qEnd_range (show s.data.toList[j]? = some 34 from h34)
  have hpr := unqS_range (show s.data.toList[j]? = some 34 from h34)
  rw [data_size, ← hq] at hqr
  rw [hu, data_size] at hpr
  obtain ⟨Q0, hQ0⟩ : ∃ Q0, Q0 = s.extract j s.size := ⟨_, rfl⟩
  obtain ⟨Q1, hQ1⟩ : ∃ Q1, Q1 = Q0.extract 1 Q0.size := ⟨_, rfl⟩
  obtain ⟨Q, hQ⟩ : ∃ Q, Q = mkB (cutS s.data.toList j q) := ⟨_, rfl⟩
  have hz0 : Q0.size = s.size - j := by rw [hQ0, extract_size]
  have hzq : Q.size = q - j := by rw [hQ]; exact mkB_cut_size s j q hqr.2
  have hd1 : Q1.data.toList = s.data.toList.drop (j + 1) := by rw [hQ1, extract_drop, hQ0, extract_drop, List.drop_drop]
  have hU := unquote_any Q
  have hUq : unqL Q.data.toList = (x, p, er) := by rw [hQ, mkB_data, hq, ← hu]; rfl
  have HU := hd (fun (w2 : World) => hUq ▸ hU w2 (by omega))
  have HI := hd (fun (w2 : World) => strings_IndexByte Q1 34 w2)
  have HR := hd h
  have HQ := hd hq
  have HUU := hd hu
  have hQE : qEnd s.data.toList j = min (j + 1 + ((s.data.toList.drop (j + 1)).takeWhile (fun b => b != 34)).length + 1) s.size := by unfold qEnd endL; rw [data_size]
  obtain ⟨T, hT⟩ : ∃ T, T = ((s.data.toList.drop (j + 1)).takeWhile (fun b => b != 34)).length := ⟨_, rfl⟩
  have hTl := takeWhile_len (fun b => b != 34) (s.data.toList.drop (j + 1))
  have hdl : (s.data.toList.drop (j + 1)).length = s.size - (j + 1) := by rw [List.length_drop, data_size]
  have hix : Lib.indexByte Q1.data.toList 34 = if T < s.size - (j + 1) then (T : Int) else -1 := by rw [hd1, idx_eq, ← hT, hdl]
  have hc34 : (34 : Int).toNat.toUInt8 = 34 := by decide
  rw [← hT, hdl] at hTl
  rw [← hT, ← hq] at hQE
  have HI2 := HI.out
  rw [hc34, hix] at HI2
  obtain ⟨x0, x1, x2⟩ := h.cells
  have hRl := h.lt
  clear h h34 hU hUq hq hu HI hix hd1 hdl hT hc34
  have hj0 : (j : Int) ≤ (s.size : Int) := by omega
  have h1q : (1 : Int) ≤ (Q0.size : Int) := by omega
  by_cases hTs : T < s.size - (j + 1)
  · rw [if_pos hTs] at HI2
    have HI := hd HI2
    clear HI2
    have ht0 : (0 : Int) ≤ (T : Int) := by omega
    have htq : (T : Int) + 2 ≤ (Q0.size : Int) := by omega
    have HQ2 := hd (show Q0.extract 0 (T + 2) = Q by
      rw [ex_mk, hQ, hQ0, ex_data]
      congr 1
      unfold cutS
      rw [List.take_of_length_le (show s.data.toList.length ≤ s.size by rw [data_size]; exact Nat.le_refl _), List.drop_zero, List.drop_take]
      congr 1
      omega)
    have HQ0 := hd hQ0
    have HQ1 := hd hQ1
    have HZQ := hd (show q = j + Q.size by omega)
    have hzq1 : Q.size ≤ 40000 := by omega
    have hq1 : j + 1 + T + 1 ≤ s.size := by omega
    clear hQ0 hQ1 hz0 hQE hTl hQ hzq
    go_enter Tryd.func76, Tryd.ntmps76
    go_wp2_with fail
    go_quiet (fail)
    rw [← HQ0.out]
    generalize hW1 : w.drewN nq = W1
    have HB1 := hd (show Below w.heap.size w W1 from hW1 ▸ below_drewN (Below.refl _ _) nq)
    have HR1 := hd (hW1 ▸ HR.out.drewN nq)
    clear hW1
    go_wp2_with fail
    rw [← HQ1.out]
    refine (HI.out _).mono ?_
    rintro e w2 ⟨rfl, rfl⟩
    go_wp2_with fail
    rw [HQ2.out]
    refine (HU.out _).mono ?_
    intro e w3 h3
    obtain ⟨v, rfl, hv3, hb3⟩ := h3
    have HR3 := hd (HR1.out.below hb3)
    have HB3 := hd (HB1.out.trans (hb3.mono HB1.out.size))
    have HV3 := hd (hv3.weaken HB1.out.size)
    clear hv3 hb3
    obtain ⟨y0, y1, y2⟩ := HR3.out.cells
    by_cases he : er = 0
    · have hb : (er != 0) = false := by simp [he]
      have HE := hd he
      clear he
      go_wp2
      go_ret2
      refine ⟨(OffB.of_below HB3.out (Nat.le_refl _)).set 1 _, fun h0 => absurd (by rw [HUU.out]; exact HE.out) h0, fun _ => ⟨?_, v, rfl, by rw [HUU.out]; exact HV3.out.asideK hRl⟩⟩
      have := HR3.out.set q
      rw [← HQ.out]
      have e : ((q : Nat) : Int) = (j : Int) + (Q.size : Int) := by have := HZQ.out; omega
      rw [e] at this
      exact this
    · have hb : (er != 0) = true := by simpa using he
      obtain ⟨hp0, hp1⟩ := hpr he
      obtain ⟨pn, rfl⟩ : ∃ pn : Nat, p = pn := ⟨p.toNat, by omega⟩
      simp only [Int.toNat_natCast] at hp1
      have HE := hd he
      clear he
      go_wp2
      go_ret2
      refine ⟨(OffB.of_below HB3.out (Nat.le_refl _)).set 1 _, fun _ => ⟨by rw [HUU.out]; rfl, ?_⟩, fun h0 => absurd (by rw [HUU.out] at h0; exact h0) HE.out⟩
      have := HR3.out.set (j + pn)
      rw [HUU.out]
      simpa using this
  · rw [if_neg hTs] at HI2
    have HI := hd HI2
    clear HI2
    have HQ2 := hd (show Q0 = Q by
      rw [hQ, hQ0, ex_mk]
      congr 2
      omega)
    have HQ0 := hd hQ0
    have HQ1 := hd hQ1
    have HZQ := hd (show q = j + Q.size by omega)
    have hzq1 : Q.size ≤ 40000 := by omega
    clear hQ0 hQ1 hz0 hQE hTl hQ hzq
    go_enter Tryd.func76, Tryd.ntmps76
    go_wp2_with fail
    go_quiet (fail)
    rw [← HQ0.out]
    generalize hW1 : w.drewN nq = W1
    have HB1 := hd (show Below w.heap.size w W1 from hW1 ▸ below_drewN (Below.refl _ _) nq)
    have HR1 := hd (hW1 ▸ HR.out.drewN nq)
    clear hW1
    go_wp2_with fail
    rw [← HQ1.out]
    refine (HI.out _).mono ?_
    rintro e w2 ⟨rfl, rfl⟩
    go_wp2_with fail
    rw [HQ2.out]
    refine (HU.out _).mono ?_
    intro e w3 h3
    obtain ⟨v, rfl, hv3, hb3⟩ := h3
    have HR3 := hd (HR1.out.below hb3)
    have HB3 := hd (HB1.out.trans (hb3.mono HB1.out.size))
    have HV3 := hd (hv3.weaken HB1.out.size)
    clear hv3 hb3
    obtain ⟨y0, y1, y2⟩ := HR3.out.cells
    by_cases he : er = 0
    · have hb : (er != 0) = false := by simp [he]
      have HE := hd he
      clear he
      go_wp2
      go_ret2
      refine ⟨(OffB.of_below HB3.out (Nat.le_refl _)).set 1 _, fun h0 => absurd (by rw [HUU.out]; exact HE.out) h0, fun _ => ⟨?_, v, rfl, by rw [HUU.out]; exact HV3.out.asideK hRl⟩⟩
      have := HR3.out.set q
      rw [← HQ.out]
      have e : ((q : Nat) : Int) = (j : Int) + (Q.size : Int) := by have := HZQ.out; omega
      rw [e] at this
      exact this
    · have hb : (er != 0) = true := by simpa using he
      obtain ⟨hp0, hp1⟩ := hpr he
      obtain ⟨pn, rfl⟩ : ∃ pn : Nat, p = pn := ⟨p.toNat, by omega⟩
      simp only [Int.toNat_natCast] at hp1
      have HE := hd he
      clear he
      go_wp2
      go_ret2
      refine ⟨(OffB.of_below HB3.out (Nat.le_refl _)).set 1 _, fun _ => ⟨by rw [HUU.out]; rfl, ?_⟩, fun h0 => absurd (by rw [HUU.out] at h0; exact h0) HE.out⟩
      have := HR3.out.set (j + pn)
      rw [HUU.out]
      simpa using this

end Go.Proofs.YtknkclbjocfhiaaDoor

namespace Go.Proofs.YtknkclbjocfhiaaDoor
open Go.RowKit

theorem setBlk {w : World} {g k : Nat} {x : Value} {cs : Array Value} {t : TypeId} (h : w.heap[g]? = some (.cells cs t (0, 0))) : (w.setCell ⟨g, k, none⟩ x).heap[g]? = some (.cells (cs.setIfInBounds k x) t (0, 0)) := by
  have hlt := lt_of_block h
  have h' : w.heap[g] = .cells cs t (0, 0) := by simpa [Array.getElem?_eq_getElem hlt] using h
  show (w.heap.modify g _)[g]? = _
  rw [Array.getElem?_eq_getElem (by simpa using hlt), Array.getElem_modify_self, h']
  rfl
set_option maxRecDepth 4000 in
theorem newBlkAt (w : World) (cs : Array Value) (t : TypeId) : (w.alloc (.cells cs t)).heap[w.heap.size]? = some (.cells cs t (0, 0)) := by
  show (w.heap.push _)[w.heap.size]? = _; simp
/-- A variable of four cells. -/
structure V4 (g : Nat) (a b c d : Value) (w : World) : Prop where
  blk : w.heap[g]? = some (.cells #[a, b, c, d] 26 (0, 0))
section
variable {g R B : Nat} {a b c d x : Value} {w w' : World}
set_option maxRecDepth 4000 in
theorem V4.lt (h : V4 g a b c d w) : g < w.heap.size := lt_of_block h.blk
set_option maxRecDepth 4000 in
theorem V4.cells (h : V4 g a b c d w) : w.cell? ⟨g, 0, none⟩ = some a ∧ w.cell? ⟨g, 1, none⟩ = some b ∧ w.cell? ⟨g, 2, none⟩ = some c ∧ w.cell? ⟨g, 3, none⟩ = some d := by
  refine ⟨?_, ?_, ?_, ?_⟩ <;> (rw [Lib.cell_of_heap h.blk]; rfl)
set_option maxRecDepth 4000 in
theorem V4.free (h : V4 g a b c d w) (k : Nat) : w.frozen? ⟨g, k, none⟩ = false := Lib.frozen_of_heap h.blk k
set_option maxRecDepth 4000 in
theorem V4.frees (h : V4 g a b c d w) : w.frozen? ⟨g, 0, none⟩ = false ∧ w.frozen? ⟨g, 1, none⟩ = false ∧ w.frozen? ⟨g, 2, none⟩ = false ∧ w.frozen? ⟨g, 3, none⟩ = false := ⟨h.free 0, h.free 1, h.free 2, h.free 3⟩
set_option maxRecDepth 4000 in
theorem V4.off (h : V4 g a b c d w) (ho : OffB R w.heap.size w w') (hg : g ≠ R) : V4 g a b c d w' := ⟨(ho.block g h.lt hg).trans h.blk⟩
set_option maxRecDepth 4000 in
theorem V4.below (h : V4 g a b c d w) (ho : Below w.heap.size w w') : V4 g a b c d w' := ⟨(ho.block g h.lt).trans h.blk⟩
set_option maxRecDepth 4000 in
theorem V4.drewN (h : V4 g a b c d w) (n : Nat) : V4 g a b c d (w.drewN n) := ⟨h.blk⟩
set_option maxRecDepth 4000 in
theorem V4.set0 (h : V4 g a b c d w) (x : Value) : V4 g x b c d (w.setCell ⟨g, 0, none⟩ x) := ⟨setBlk h.blk⟩
set_option maxRecDepth 4000 in
theorem V4.set1 (h : V4 g a b c d w) (x : Value) : V4 g a x c d (w.setCell ⟨g, 1, none⟩ x) := ⟨setBlk h.blk⟩
set_option maxRecDepth 4000 in
theorem V4.set2 (h : V4 g a b c d w) (x : Value) : V4 g a b x d (w.setCell ⟨g, 2, none⟩ x) := ⟨setBlk h.blk⟩
set_option maxRecDepth 4000 in
theorem V4.set3 (h : V4 g a b c d w) (x : Value) : V4 g a b c x (w.setCell ⟨g, 3, none⟩ x) := ⟨setBlk h.blk⟩
set_option maxRecDepth 4000 in
theorem V4.far (h : V4 g a b c d w) {q k : Nat} (hq : g ≠ q) (x : Value) : V4 g a b c d (w.setCell ⟨q, k, none⟩ x) := ⟨(Below.heap_setCell _ _ _ _ (by simpa using hq)).trans h.blk⟩
set_option maxRecDepth 4000 in
theorem V4.new (w : World) (a b c d : Value) : V4 w.heap.size a b c d (w.alloc (.cells #[a, b, c, d] 26)) := ⟨newBlkAt w _ _⟩
set_option maxRecDepth 4000 in
theorem Rd.off {i : Nat} {s : ByteArray} (h : Rd R s i w) (ho : OffB g w.heap.size w w') (hg : R ≠ g) : Rd R s i w' := ⟨(ho.block R h.lt hg).trans h.blk⟩
set_option maxRecDepth 4000 in
theorem Rd.far {i q k : Nat} {s : ByteArray} (h : Rd R s i w) (hq : R ≠ q) (x : Value) : Rd R s i (w.setCell ⟨q, k, none⟩ x) := ⟨(Below.heap_setCell _ _ _ _ (by simpa using hq)).trans h.blk⟩
set_option maxRecDepth 4000 in
theorem Rd.alloc {i : Nat} {s : ByteArray} (h : Rd R s i w) (o : Obj) : Rd R s i (w.alloc o) := h.below ((Below.refl _ _).alloc (Nat.le_refl _) _)
set_option maxRecDepth 4000 in
theorem OffB.far (h : OffB R B w w') {q k : Nat} (hq : B ≤ q) (x : Value) : OffB R B w (w'.setCell ⟨q, k, none⟩ x) :=
  ⟨h.os, h.tape, h.output, by simpa using h.size, fun j h1 h2 => (Below.heap_setCell _ _ _ _ (show j ≠ q by omega)).trans (h.block j h1 h2)⟩
end

theorem unqS_len {s : ByteArray} {j : Nat} (h : atB s j = some 34) {x : List Int} {p : Int} (hu : unqS s.data.toList j = (x, p, 0)) : x.length ≤ s.size := by
  have h1 := qEnd_range (show s.data.toList[j]? = some 34 from h)
  obtain ⟨_, _, h4⟩ := unqL_inv _ x p hu
  have h5 := cutS_len s.data.toList j (qEnd s.data.toList j) h1.2
  rw [h4, quoL_len] at h5
  have h6 := bodyL_ge' x
  rw [data_size] at h1
  omega
/-- What begin leaves. -/
def Begun (R : Nat) (s : ByteArray) (r : Res NT) (w : World) (e : Ending) (w' : World) : Prop :=
  OffB R w.heap.size w w' ∧ match r with
  | .bad p er => Rd R s p w' ∧ ∃ lf PA np pc TA nt tc KA nk kc, e = .returned (.tuple #[.agg #[.bool lf, .slice PA np pc, .slice TA nt tc, .slice KA nk kc], .int .i64 er])
  | .ok n j => Rd R s j w' ∧ ∃ PA np pc TA nt tc, e = .returned (.tuple #[.agg #[.bool n.lf, .slice PA np pc, .slice TA nt tc, .slice none 0 0], .int .i64 0]) ∧ np = n.ps.length ∧ nt = n.tx.length ∧ n.ks = [] ∧ np ≤ pc ∧ nt ≤ tc ∧ nt ≤ 40000 ∧ chk n.ps = 0 ∧
      VP (fun b => w.heap.size ≤ b ∧ b < w'.heap.size) w' PA (pv n.ps) ∧ VP (fun b => w.heap.size ≤ b ∧ b < w'.heap.size) w' TA (rv n.tx)

/-- Nothing has changed but two blocks. -/
structure Off2 (R g : Nat) (w w' : World) : Prop where
  size : w.heap.size ≤ w'.heap.size
  block : ∀ k, k < w.heap.size → k ≠ R → k ≠ g → w'.heap[k]? = w.heap[k]?
section
variable {R g : Nat} {w w' w2 : World}
set_option maxRecDepth 4000 in
theorem Off2.refl (R g : Nat) (w : World) : Off2 R g w w := ⟨Nat.le_refl _, fun _ _ _ _ => rfl⟩
set_option maxRecDepth 4000 in
theorem Off2.drewN (h : Off2 R g w w') (n : Nat) : Off2 R g w (w'.drewN n) := ⟨h.size, h.block⟩
set_option maxRecDepth 4000 in
theorem Off2.setR (h : Off2 R g w w') (k : Nat) (x : Value) : Off2 R g w (w'.setCell ⟨R, k, none⟩ x) := ⟨by simpa using h.size, fun j h1 h2 h3 => (Below.heap_setCell _ _ _ _ (show j ≠ R from h2)).trans (h.block j h1 h2 h3)⟩
set_option maxRecDepth 4000 in
theorem Off2.setG (h : Off2 R g w w') (k : Nat) (x : Value) : Off2 R g w (w'.setCell ⟨g, k, none⟩ x) := ⟨by simpa using h.size, fun j h1 h2 h3 => (Below.heap_setCell _ _ _ _ (show j ≠ g from h3)).trans (h.block j h1 h2 h3)⟩
set_option maxRecDepth 4000 in
theorem Off2.off (h : Off2 R g w w') (k : OffB R w'.heap.size w' w2) : Off2 R g w w2 := ⟨Nat.le_trans h.size k.size, fun j h1 h2 h3 => (k.block j (Nat.lt_of_lt_of_le h1 h.size) h2).trans (h.block j h1 h2 h3)⟩
set_option maxRecDepth 4000 in
theorem Off2.set4 (h : Off2 R g w w') (a b c d : Value) : Off2 R g w ((((w'.setCell ⟨g, 0, none⟩ a).setCell ⟨g, 1, none⟩ b).setCell ⟨g, 2, none⟩ c).setCell ⟨g, 3, none⟩ d) := (((h.setG 0 a).setG 1 b).setG 2 c).setG 3 d
set_option maxRecDepth 4000 in
theorem VP.off2 {P Q : Nat → Prop} {A : Option Addr} {xs : List Value} (h : VP P w A xs) (ho : Off2 R g w w') (hP : ∀ b, P b → b < w.heap.size ∧ b ≠ R ∧ b ≠ g) (hQ : ∀ b, P b → Q b) : VP Q w' A xs :=
  h.keep hQ fun p hp => by
    obtain ⟨h1, h2, h3⟩ := hP _ hp
    have := ho.block _ h1 h2 h3
    exact ⟨World.cell?_of_block this, World.frozen?_of_block this⟩
set_option maxRecDepth 4000 in
theorem OffB.far4 {B : Nat} (h : OffB R B w w') (hq : B ≤ g) (a b c d : Value) : OffB R B w ((((w'.setCell ⟨g, 0, none⟩ a).setCell ⟨g, 1, none⟩ b).setCell ⟨g, 2, none⟩ c).setCell ⟨g, 3, none⟩ d) := (((h.far hq a).far hq b).far hq c).far hq d
set_option maxRecDepth 4000 in
theorem Rd.far4 {i : Nat} {s : ByteArray} (h : Rd R s i w) (hq : R ≠ g) (a b c d : Value) : Rd R s i ((((w.setCell ⟨g, 0, none⟩ a).setCell ⟨g, 1, none⟩ b).setCell ⟨g, 2, none⟩ c).setCell ⟨g, 3, none⟩ d) := (((h.far hq a).far hq b).far hq c).far hq d
set_option maxRecDepth 4000 in
theorem Rd.setz {i j : Nat} {s : ByteArray} {z : Int} (h : Rd R s i w) (hz : z = (j : Int)) : Rd R s j (w.setCell ⟨R, 1, none⟩ (.int .i64 z)) := hz ▸ h.set j
end
set_option maxRecDepth 4000 in
theorem own_vp1 {t : TypeId} {w : World} {b n c : Nat} {A : Option Addr} {xs : List Value} (h : OwnV t w b (.slice A n c) xs) : VP (fun k => b ≤ k ∧ k < w.heap.size) w A xs := by
  obtain ⟨A', c', e, _, _, ho⟩ := h
  injection e with e1 e2 e3
  subst e1 e2 e3
  exact rowVP ho fun g hg => ho.lt g hg

set_option maxRecDepth 4000 in
set_option maxHeartbeats 8000000 in
theorem begin_any (R : Nat) (s : ByteArray) (i : Nat) (w : World) (h : Rd R s i w) (_hi : i ≤ s.size) (hs : s.size ≤ 40000) :
    Calls Tryd.prog 51 #[.pointer (some ⟨R, 0, none⟩)] w (Begun R s (beginP s.data.toList i) w) := by
  have hRl := h.lt
  have hgR : R ≠ w.heap.size := by omega
  obtain ⟨W1, hW1⟩ : ∃ W1, W1 = w.alloc (.cells #[.bool false, .slice none 0 0, .slice none 0 0, .slice none 0 0] 26) := ⟨_, rfl⟩
  have HV1 := hd (hW1 ▸ V4.new w (.bool false) (.slice none 0 0) (.slice none 0 0) (.slice none 0 0))
  have HR1 := hd (hW1 ▸ h.alloc (.cells #[.bool false, .slice none 0 0, .slice none 0 0, .slice none 0 0] 26))
  have HO1 := hd (hW1 ▸ (OffB.refl R w.heap.size w).alloc (.cells #[.bool false, .slice none 0 0, .slice none 0 0, .slice none 0 0] 26) (Nat.le_refl _))
  have hz1 : W1.heap.size = w.heap.size + 1 := by rw [hW1]; simp
  by_cases h123 : atB s i = some 123
  · have hil := atB_lt h123
    have HC1 := hd (take_yes R s i 123 123 rfl W1 HR1.out (by omega) h123)
    have HH := hd (show headP s.data.toList i = propsP s.data.toList [] (i + 1) by unfold headP; rw [if_pos (show s.data.toList[i]? = some 123 from h123)])
    clear h h123
    subst hW1
    go_enter Tryd.func51, Tryd.ntmps51
    go_wp2_with fail
    refine HC1.out.mono ?_
    rintro e w2 ⟨rfl, hr2, ho2⟩
    have hz2 := ho2.size
    have HV2 := hd (HV1.out.off ho2 (by omega))
    have HO2 := hd (HO1.out.trans (ho2.less (by omega)))
    have HC2 := hd (props_any w2.heap.size R s (i + 1) w2 hr2 hil (by omega) (by have := hr2.lt; omega) (Nat.le_refl _))
    clear hr2 ho2
    cases hp : propsP s.data.toList [] (i + 1) with
    | bad p er =>
      have HF := hd (show beginP s.data.toList i = .bad p er by unfold beginP; rw [HH.out, hp])
      have hne : er ≠ 0 := ((propsP_range _ s.data.toList [] (i + 1) (Nat.le_refl _) (by rw [data_size]; exact hil)).2 p er hp).2
      have hb : (er != 0) = true := by simpa using hne
      rw [hp] at HC2
      have HC2 := hd HC2.out
      clear hp hne
      obtain ⟨x0, x1, x2, x3⟩ := HV2.out.cells
      go_wp2_with fail
      refine HC2.out.mono ?_
      intro e w3 h3
      obtain ⟨ho3, rfl, hr3⟩ := h3
      have HV3 := hd (HV2.out.off ho3 (by omega))
      clear x0 x1 x2 x3
      obtain ⟨x0, x1, x2, x3⟩ := HV3.out.cells
      obtain ⟨f0, f1, f2, f3⟩ := HV3.out.frees
      have HR3 := hd hr3
      have HO3 := hd (HO2.out.trans (ho3.less (by omega)))
      clear hr3 ho3
      go_wp2
      refine bodyPost_ret (v := .tuple #[.agg #[.bool false, .slice none 0 0, .slice none 0 0, .slice none 0 0], .int .i64 er]) (by simp [results, Tryd.results51, go_sem, x0, x1, x2, x3]) rfl ?_
      rw [HF.out]
      exact ⟨((((HO3.out.far (Nat.le_refl _) _).far (Nat.le_refl _) _).far (Nat.le_refl _) _).far (Nat.le_refl _) _).far (Nat.le_refl _) _, ((((HR3.out.far hgR _).far hgR _).far hgR _).far hgR _).far hgR _, _, _, _, _, _, _, _, _, _, _, rfl⟩
    | ok ps j =>
      have HB := hd (show beginP s.data.toList i = bodyP s.data.toList ps j by unfold beginP; rw [HH.out, hp])
      have hpr := (propsP_range _ s.data.toList [] (i + 1) (Nat.le_refl _) (by rw [data_size]; exact hil)).1 ps j hp
      rw [data_size] at hpr
      obtain ⟨hj1, hj2, hck, _⟩ := hpr
      rw [hp] at HC2
      have HC2 := hd HC2.out
      clear hp
      obtain ⟨x0, x1, x2, x3⟩ := HV2.out.cells
      go_wp2_with fail
      refine HC2.out.mono ?_
      intro e w3 h3
      obtain ⟨ho3, hr3, A, c, rfl, hw3⟩ := h3
      have HV3 := hd (HV2.out.off ho3 (by omega))
      have hz3 := ho3.size
      have hnc : ps.length ≤ c := by
        obtain ⟨_, c', e, h1, _⟩ := rowFree hw3
        injection e with _ _ e
        omega
      have HVP := hd (rowVP (P := fun b => w2.heap.size ≤ b ∧ b < w3.heap.size) hw3 fun g hg => hw3.lt g hg)
      obtain ⟨np, hnp⟩ : ∃ np, np = ps.length := ⟨_, rfl⟩
      rw [← hnp] at hnc ⊢
      have HNP := hd (⟨hnp, hnc, hck⟩ : np = ps.length ∧ np ≤ c ∧ chk ps = 0)
      clear x0 x1 x2 x3 hck hnp
      obtain ⟨x0, x1, x2, x3⟩ := HV3.out.cells
      obtain ⟨f0, f1, f2, f3⟩ := HV3.out.frees
      have HR3 := hd hr3
      have HO3 := hd (HO2.out.trans (ho3.less (by omega)))
      clear hr3 ho3 hw3
      go_wp2_with fail
      generalize hWj : World.setCell w3 _ _ = Wj
      have HVj := hd (hWj ▸ HV3.out.set1 (.slice A np c))
      have HRj := hd (hWj ▸ HR3.out.far (k := 1) hgR (.slice A np c))
      have HOj := hd (hWj ▸ HO3.out.far (q := w.heap.size) (k := 1) (Nat.le_refl _) (.slice A np c))
      have HVPj := hd (show VP (fun b => w.heap.size < b ∧ b < Wj.heap.size) Wj A (pv ps) from hWj ▸ HVP.out.off2 (R := R) (g := w.heap.size) ((Off2.refl _ _ w3).setG 1 (.slice A np c)) (fun b hb => ⟨hb.2, by omega, by omega⟩) (fun b hb => ⟨by omega, by simpa using hb.2⟩))
      clear hWj x0 x1 x2 x3 f0 f1 f2 f3
      have hzj := HOj.out.size
      have hgj := HVj.out.lt
      by_cases h91 : atB s j = some 91
      · have HF := hd (HB.out.trans (show bodyP s.data.toList ps j = .ok (.mk false ps [] []) (j + 1) by unfold bodyP; rw [if_pos (show s.data.toList[j]? = some 91 from h91)]))
        have HN := hd (rnext_any R s j 91 91 rfl true (decide_eq_true h91) Wj HRj.out (by omega))
        have hjl := atB_lt h91
        clear h91
        refine HN.out.mono ?_
        rintro e w5 ⟨rfl, kd, rfl⟩
        have HV5 := hd (HVj.out.drewN kd)
        have HR5 := hd (HRj.out.drewN kd)
        obtain ⟨x0, x1, x2, x3⟩ := HV5.out.cells
        obtain ⟨f0, f1, f2, f3⟩ := HV5.out.frees
        obtain ⟨y0, y1, y2⟩ := HR5.out.cells
        go_wp2
        refine bodyPost_ret (v := .tuple #[.agg #[.bool false, .slice A np c, .slice none 0 0, .slice none 0 0], .int .i64 0]) (by simp [results, Tryd.results51, go_sem, x0, x1, x2, x3]) rfl ?_
        rw [HF.out]
        exact ⟨((HOj.out.drewN kd).set 1 _).far4 (Nat.le_refl _) _ _ _ _, (HR5.out.setz (j := j + 1) (by omega)).far4 hgR _ _ _ _, _, _, _, _, _, _, rfl, HNP.out.1, rfl, rfl, HNP.out.2.1, Nat.le_refl _, Nat.zero_le _, HNP.out.2.2,
          HVPj.out.off2 ((((Off2.refl R w.heap.size Wj).drewN kd).setR 1 _).set4 _ _ _ _) (fun b hb => ⟨hb.2, by omega, by omega⟩) (fun b hb => ⟨by omega, by simpa using hb.2⟩), fun k u hu => by simp [rv, NT.tx] at hu⟩
      · have HN := hd (rnext_any R s j 91 91 rfl false (decide_eq_false h91) Wj HRj.out (by omega))
        refine HN.out.mono ?_
        rintro e w5 ⟨rfl, kd, rfl⟩
        have HV5 := hd (HVj.out.drewN kd)
        have HR5 := hd (HRj.out.drewN kd)
        by_cases h34 : atB s j = some 34
        · have HN2 := hd (rnext_any R s j 34 34 rfl true (decide_eq_true h34) (Wj.drewN kd) HR5.out (by omega))
          go_wp2_with fail
          refine HN2.out.mono ?_
          rintro e w6 ⟨rfl, kd2, rfl⟩
          have HV6 := hd (HVj.out.drewN (kd + kd2))
          obtain ⟨x0, x1, x2, x3⟩ := HV6.out.cells
          obtain ⟨f0, f1, f2, f3⟩ := HV6.out.frees
          go_wp2_with fail
          generalize hW7 : World.setCell _ ⟨w.heap.size, 0, none⟩ _ = W7
          have HV7 := hd (hW7 ▸ HV6.out.set0 (.bool true))
          have HR7 := hd (hW7 ▸ (HRj.out.drewN (kd + kd2)).far (k := 0) hgR (.bool true))
          have HO7 := hd (hW7 ▸ (HOj.out.drewN (kd + kd2)).far (q := w.heap.size) (k := 0) (Nat.le_refl _) (.bool true))
          have HX7 := hd (hW7 ▸ ((Off2.refl R w.heap.size Wj).drewN (kd + kd2)).setG 0 (.bool true))
          have hz7 : W7.heap.size = Wj.heap.size := by rw [← hW7]; simp
          have HT := hd (text_any R s j W7 HR7.out h34 (by omega))
          obtain ⟨x, p, er, hu⟩ : ∃ x p er, unqS s.data.toList j = (x, p, er) := ⟨_, _, _, rfl⟩
          have HB2 := hd (HB.out.trans (show bodyP s.data.toList ps j = if er ≠ 0 then .bad (j + p.toNat) er else .ok (.mk true ps x []) (qEnd s.data.toList j) by
            unfold bodyP
            rw [if_neg (show ¬ s.data.toList[j]? = some 91 from h91), if_pos (show s.data.toList[j]? = some 34 from h34), hu]))
          have hql := qEnd_range (show s.data.toList[j]? = some 34 from h34)
          rw [data_size] at hql
          have HU := hd hu
          have HLX := hd (fun (h0 : er = 0) => unqS_len (s := s) h34 (x := x) (p := p) (by rw [← h0]; exact hu))
          clear hW7 x0 x1 x2 x3 f0 f1 f2 f3 hu h91 h34
          refine HT.out.mono ?_
          intro e w8 h8
          obtain ⟨ho8, h8a, h8b⟩ := h8
          rw [HU.out] at h8a h8b
          have HV8 := hd (HV7.out.off ho8 (by omega))
          have HO8 := hd (HO7.out.trans (ho8.less (by omega)))
          have HX8 := hd (HX7.out.off ho8)
          have hz8 := ho8.size
          obtain ⟨x0, x1, x2, x3⟩ := HV8.out.cells
          obtain ⟨f0, f1, f2, f3⟩ := HV8.out.frees
          by_cases he : er = 0
          · obtain ⟨hr8, v, rfl, hv8⟩ := h8b he
            obtain ⟨nt, hnt⟩ : ∃ nt, nt = x.length := ⟨_, rfl⟩
            obtain ⟨TA, tc, rfl, hxc, _, hvl, ho8'⟩ := hv8.open_at nt (by rw [rv_len, hnt])
            have HF := hd (HB2.out.trans (if_neg (by simp [he])))
            have hxl := HLX.out he
            have HR8 := hd hr8
            have HW8 := hd (own_vp1 ho8')
            clear he hr8 hv8 hvl h8a h8b ho8 ho8'
            have HNT := hd hnt
            clear hnt
            go_wp2
            refine bodyPost_ret (v := .tuple #[.agg #[.bool true, .slice A np c, .slice TA nt tc, .slice none 0 0], .int .i64 0]) (by simp [results, Tryd.results51, go_sem, x0, x1, x2, x3]) rfl ?_
            rw [HF.out]
            exact ⟨(HO8.out.far (Nat.le_refl _) _).far4 (Nat.le_refl _) _ _ _ _, (HR8.out.far hgR _).far4 hgR _ _ _ _, _, _, _, _, _, _, rfl, HNP.out.1, HNT.out, rfl, HNP.out.2.1, hxc, by have := HNT.out; omega, HNP.out.2.2,
              HVPj.out.off2 ((HX8.out.setG 2 _).set4 _ _ _ _) (fun b hb => ⟨hb.2, by omega, by omega⟩) (fun b hb => ⟨by omega, by have := hb.2; simp; omega⟩),
              HW8.out.off2 (((Off2.refl R w.heap.size w8).setG 2 _).set4 _ _ _ _) (fun b hb => ⟨hb.2, by omega, by omega⟩) (fun b hb => ⟨by omega, by simpa using hb.2⟩)⟩
          · obtain ⟨rfl, hr8⟩ := h8a he
            have HF := hd (HB2.out.trans (if_pos he))
            have hb : (er != 0) = true := by simpa using he
            have HR8 := hd hr8
            clear he hr8 h8a h8b ho8
            go_wp2
            refine bodyPost_ret (v := .tuple #[.agg #[.bool true, .slice A np c, .slice none 0 0, .slice none 0 0], .int .i64 er]) (by simp [results, Tryd.results51, go_sem, x0, x1, x2, x3]) rfl ?_
            rw [HF.out]
            exact ⟨(HO8.out.far (Nat.le_refl _) _).far4 (Nat.le_refl _) _ _ _ _, (HR8.out.far hgR _).far4 hgR _ _ _ _, _, _, _, _, _, _, _, _, _, _, rfl⟩
        · have HN2 := hd (rnext_any R s j 34 34 rfl false (decide_eq_false h34) (Wj.drewN kd) HR5.out (by omega))
          have HF := hd (HB.out.trans (show bodyP s.data.toList ps j = .bad j 11 by unfold bodyP; rw [if_neg (show ¬ s.data.toList[j]? = some 91 from h91), if_neg (show ¬ s.data.toList[j]? = some 34 from h34)]))
          clear h91 h34
          go_wp2_with fail
          refine HN2.out.mono ?_
          rintro e w6 ⟨rfl, kd2, rfl⟩
          have HV6 := hd (HVj.out.drewN (kd + kd2))
          obtain ⟨x0, x1, x2, x3⟩ := HV6.out.cells
          obtain ⟨f0, f1, f2, f3⟩ := HV6.out.frees
          go_wp2
          refine bodyPost_ret (v := .tuple #[.agg #[.bool false, .slice A np c, .slice none 0 0, .slice none 0 0], .int .i64 11]) (by simp [results, Tryd.results51, go_sem, x0, x1, x2, x3]) rfl ?_
          rw [HF.out]
          exact ⟨(HOj.out.drewN (kd + kd2)).far4 (Nat.le_refl _) _ _ _ _, (HRj.out.drewN (kd + kd2)).far4 hgR _ _ _ _, _, _, _, _, _, _, _, _, _, _, rfl⟩
  · have HC1 := hd (take_no R s i 123 123 rfl W1 HR1.out (by omega) h123)
    obtain ⟨ps, hps⟩ : ∃ ps : List Pr, ps = [] := ⟨_, rfl⟩
    obtain ⟨j, hj⟩ : ∃ j, j = i := ⟨_, rfl⟩
    have HB := hd (show beginP s.data.toList i = bodyP s.data.toList ps j by
      unfold beginP headP
      rw [if_neg (show ¬ s.data.toList[i]? = some 123 from h123), hps, hj])
    have HNP := hd (show 0 = ps.length ∧ 0 ≤ 0 ∧ chk ps = 0 from ⟨by rw [hps]; rfl, Nat.le_refl _, by rw [hps]; rfl⟩)
    have HJ := hd hj
    have HVPn := hd (fun (X : World) (P : Nat → Prop) => (show VP P X none (pv ps) from fun k u hu => by rw [hps] at hu; simp [pv] at hu))
    clear h h123 hps hj
    subst hW1
    go_enter Tryd.func51, Tryd.ntmps51
    go_wp2_with fail
    refine HC1.out.mono ?_
    rintro e w2 ⟨rfl, kd0, rfl⟩
    go_wp2_with fail
    generalize hWj : World.drewN _ kd0 = Wj
    have HVj := hd (hWj ▸ HV1.out.drewN kd0)
    have HRj := hd (HJ.out ▸ hWj ▸ HR1.out.drewN kd0)
    have HOj := hd (hWj ▸ HO1.out.drewN kd0)
    have HVPj := hd (HVPn.out Wj (fun b => w.heap.size < b ∧ b < Wj.heap.size))
    clear hWj
    have hzj := HOj.out.size
    have hgj := HVj.out.lt
    by_cases h91 : atB s j = some 91
    · have HF := hd (HB.out.trans (show bodyP s.data.toList ps j = .ok (.mk false ps [] []) (j + 1) by unfold bodyP; rw [if_pos (show s.data.toList[j]? = some 91 from h91)]))
      have HN := hd (rnext_any R s j 91 91 rfl true (decide_eq_true h91) Wj HRj.out (by omega))
      have hjl := atB_lt h91
      clear h91
      refine HN.out.mono ?_
      rintro e w5 ⟨rfl, kd, rfl⟩
      have HV5 := hd (HVj.out.drewN kd)
      have HR5 := hd (HRj.out.drewN kd)
      obtain ⟨x0, x1, x2, x3⟩ := HV5.out.cells
      obtain ⟨f0, f1, f2, f3⟩ := HV5.out.frees
      obtain ⟨y0, y1, y2⟩ := HR5.out.cells
      go_wp2
      refine bodyPost_ret (v := .tuple #[.agg #[.bool false, .slice none 0 0, .slice none 0 0, .slice none 0 0], .int .i64 0]) (by simp [results, Tryd.results51, go_sem, x0, x1, x2, x3]) rfl ?_
      rw [HF.out]
      exact ⟨((HOj.out.drewN kd).set 1 _).far4 (Nat.le_refl _) _ _ _ _, (HR5.out.setz (j := j + 1) (by omega)).far4 hgR _ _ _ _, _, _, _, _, _, _, rfl, HNP.out.1, rfl, rfl, HNP.out.2.1, Nat.le_refl _, Nat.zero_le _, HNP.out.2.2,
        HVPj.out.off2 ((((Off2.refl R w.heap.size Wj).drewN kd).setR 1 _).set4 _ _ _ _) (fun b hb => ⟨hb.2, by omega, by omega⟩) (fun b hb => ⟨by omega, by simpa using hb.2⟩), fun k u hu => by simp [rv, NT.tx] at hu⟩
    · have HN := hd (rnext_any R s j 91 91 rfl false (decide_eq_false h91) Wj HRj.out (by omega))
      refine HN.out.mono ?_
      rintro e w5 ⟨rfl, kd, rfl⟩
      have HV5 := hd (HVj.out.drewN kd)
      have HR5 := hd (HRj.out.drewN kd)
      by_cases h34 : atB s j = some 34
      · have HN2 := hd (rnext_any R s j 34 34 rfl true (decide_eq_true h34) (Wj.drewN kd) HR5.out (by omega))
        go_wp2_with fail
        refine HN2.out.mono ?_
        rintro e w6 ⟨rfl, kd2, rfl⟩
        have HV6 := hd (HVj.out.drewN (kd + kd2))
        obtain ⟨x0, x1, x2, x3⟩ := HV6.out.cells
        obtain ⟨f0, f1, f2, f3⟩ := HV6.out.frees
        go_wp2_with fail
        generalize hW7 : World.setCell _ ⟨w.heap.size, 0, none⟩ _ = W7
        have HV7 := hd (hW7 ▸ HV6.out.set0 (.bool true))
        have HR7 := hd (hW7 ▸ (HRj.out.drewN (kd + kd2)).far (k := 0) hgR (.bool true))
        have HO7 := hd (hW7 ▸ (HOj.out.drewN (kd + kd2)).far (q := w.heap.size) (k := 0) (Nat.le_refl _) (.bool true))
        have HX7 := hd (hW7 ▸ ((Off2.refl R w.heap.size Wj).drewN (kd + kd2)).setG 0 (.bool true))
        have hz7 : W7.heap.size = Wj.heap.size := by rw [← hW7]; simp
        have HT := hd (text_any R s j W7 HR7.out h34 (by omega))
        obtain ⟨x, p, er, hu⟩ : ∃ x p er, unqS s.data.toList j = (x, p, er) := ⟨_, _, _, rfl⟩
        have HB2 := hd (HB.out.trans (show bodyP s.data.toList ps j = if er ≠ 0 then .bad (j + p.toNat) er else .ok (.mk true ps x []) (qEnd s.data.toList j) by
          unfold bodyP
          rw [if_neg (show ¬ s.data.toList[j]? = some 91 from h91), if_pos (show s.data.toList[j]? = some 34 from h34), hu]))
        have hql := qEnd_range (show s.data.toList[j]? = some 34 from h34)
        rw [data_size] at hql
        have HU := hd hu
        have HLX := hd (fun (h0 : er = 0) => unqS_len (s := s) h34 (x := x) (p := p) (by rw [← h0]; exact hu))
        clear hW7 x0 x1 x2 x3 f0 f1 f2 f3 hu h91 h34
        refine HT.out.mono ?_
        intro e w8 h8
        obtain ⟨ho8, h8a, h8b⟩ := h8
        rw [HU.out] at h8a h8b
        have HV8 := hd (HV7.out.off ho8 (by omega))
        have HO8 := hd (HO7.out.trans (ho8.less (by omega)))
        have HX8 := hd (HX7.out.off ho8)
        have hz8 := ho8.size
        obtain ⟨x0, x1, x2, x3⟩ := HV8.out.cells
        obtain ⟨f0, f1, f2, f3⟩ := HV8.out.frees
        by_cases he : er = 0
        · obtain ⟨hr8, v, rfl, hv8⟩ := h8b he
          obtain ⟨nt, hnt⟩ : ∃ nt, nt = x.length := ⟨_, rfl⟩
          obtain ⟨TA, tc, rfl, hxc, _, hvl, ho8'⟩ := hv8.open_at nt (by rw [rv_len, hnt])
          have HF := hd (HB2.out.trans (if_neg (by simp [he])))
          have hxl := HLX.out he
          have HR8 := hd hr8
          have HW8 := hd (own_vp1 ho8')
          clear he hr8 hv8 hvl h8a h8b ho8 ho8'
          have HNT := hd hnt
          clear hnt
          go_wp2
          refine bodyPost_ret (v := .tuple #[.agg #[.bool true, .slice none 0 0, .slice TA nt tc, .slice none 0 0], .int .i64 0]) (by simp [results, Tryd.results51, go_sem, x0, x1, x2, x3]) rfl ?_
          rw [HF.out]
          exact ⟨(HO8.out.far (Nat.le_refl _) _).far4 (Nat.le_refl _) _ _ _ _, (HR8.out.far hgR _).far4 hgR _ _ _ _, _, _, _, _, _, _, rfl, HNP.out.1, HNT.out, rfl, HNP.out.2.1, hxc, by have := HNT.out; omega, HNP.out.2.2,
            HVPj.out.off2 ((HX8.out.setG 2 _).set4 _ _ _ _) (fun b hb => ⟨hb.2, by omega, by omega⟩) (fun b hb => ⟨by omega, by have := hb.2; simp; omega⟩),
            HW8.out.off2 (((Off2.refl R w.heap.size w8).setG 2 _).set4 _ _ _ _) (fun b hb => ⟨hb.2, by omega, by omega⟩) (fun b hb => ⟨by omega, by simpa using hb.2⟩)⟩
        · obtain ⟨rfl, hr8⟩ := h8a he
          have HF := hd (HB2.out.trans (if_pos he))
          have hb : (er != 0) = true := by simpa using he
          have HR8 := hd hr8
          clear he hr8 h8a h8b ho8
          go_wp2
          refine bodyPost_ret (v := .tuple #[.agg #[.bool true, .slice none 0 0, .slice none 0 0, .slice none 0 0], .int .i64 er]) (by simp [results, Tryd.results51, go_sem, x0, x1, x2, x3]) rfl ?_
          rw [HF.out]
          exact ⟨(HO8.out.far (Nat.le_refl _) _).far4 (Nat.le_refl _) _ _ _ _, (HR8.out.far hgR _).far4 hgR _ _ _ _, _, _, _, _, _, _, _, _, _, _, rfl⟩
      · have HN2 := hd (rnext_any R s j 34 34 rfl false (decide_eq_false h34) (Wj.drewN kd) HR5.out (by omega))
        have HF := hd (HB.out.trans (show bodyP s.data.toList ps j = .bad j 11 by unfold bodyP; rw [if_neg (show ¬ s.data.toList[j]? = some 91 from h91), if_neg (show ¬ s.data.toList[j]? = some 34 from h34)]))
        clear h91 h34
        go_wp2_with fail
        refine HN2.out.mono ?_
        rintro e w6 ⟨rfl, kd2, rfl⟩
        have HV6 := hd (HVj.out.drewN (kd + kd2))
        obtain ⟨x0, x1, x2, x3⟩ := HV6.out.cells
        obtain ⟨f0, f1, f2, f3⟩ := HV6.out.frees
        go_wp2
        refine bodyPost_ret (v := .tuple #[.agg #[.bool false, .slice none 0 0, .slice none 0 0, .slice none 0 0], .int .i64 11]) (by simp [results, Tryd.results51, go_sem, x0, x1, x2, x3]) rfl ?_
        rw [HF.out]
        exact ⟨(HOj.out.drewN (kd + kd2)).far4 (Nat.le_refl _) _ _ _ _, (HRj.out.drewN (kd + kd2)).far4 hgR _ _ _ _, _, _, _, _, _, _, _, _, _, _, rfl⟩

end Go.Proofs.YtknkclbjocfhiaaDoor

namespace Go.Proofs.YtknkclbjocfhiaaDoor
open Go.RowKit
open Go.WideShapes (add_plain)

def flatK (us : List Value) : List Value := us.flatMap fun u => u.cells.toList
set_option maxRecDepth 4000 in
theorem flatK_append (us vs : List Value) : flatK (us ++ vs) = flatK us ++ flatK vs := by simp [flatK]
/-- An open node: its parts' addresses, its row of Kids, what that holds, and the tree so far. -/
structure Opn where
  PA : Option Addr
  np : Nat
  pc : Nat
  TA : Option Addr
  nt : Nat
  tc : Nat
  vK : Value
  us : List Value
  n : NT
def Opn.row4 (o : Opn) : List Value := [.bool o.n.lf, .slice o.PA o.np o.pc, .slice o.TA o.nt o.tc, o.vK]
def Opn.val (o : Opn) : Value := .agg #[.bool o.n.lf, .slice o.PA o.np o.pc, .slice o.TA o.nt o.tc, o.vK]
set_option maxRecDepth 4000 in
theorem flat_vals (L : List Opn) : flatK (L.map Opn.val) = L.flatMap Opn.row4 := by
  induction L with
  | nil => rfl
  | cons o r ih => rw [List.map_cons, List.flatMap_cons, ← ih]; rfl
set_option maxRecDepth 4000 in
theorem flat_len (L : List Opn) : (flatK (L.map Opn.val)).length = L.length * 4 := by
  rw [flat_vals]
  induction L with
  | nil => rfl
  | cons o r ih => rw [List.flatMap_cons, List.length_append, ih, List.length_cons]; simp [Opn.row4]; omega
structure OpnOk (Sp : Nat → Prop) (base d : Nat) (w : World) (o : Opn) : Prop where
  np : o.np = o.n.ps.length
  nt : o.nt = o.n.tx.length
  pc : o.np ≤ o.pc
  tc : o.nt ≤ o.tc
  ntl : o.nt ≤ 40000
  chk : chk o.n.ps = 0
  props : VP Sp w o.PA (pv o.n.ps)
  text : VP Sp w o.TA (rv o.n.tx)
  row : w.ownsRow base 26 4 o.vK o.n.ks.length (flatK o.us)
  len : o.us.length = o.n.ks.length
  kids : ∀ (j : Nat) (m : NT), o.n.ks[j]? = some m → ∃ u, o.us[j]? = some u ∧ TreeP Sp d w u m
set_option maxRecDepth 4000 in
theorem row_kept {w w' : World} {base n size : Nat} {t : TypeId} {v : Value} {xs : List Value} (h : w.ownsRow base t size v n xs) (hk : ∀ b, v.ownBlock = some b → w'.heap[b]? = w.heap[b]?) : w'.ownsRow base t size v n xs := by
  refine ⟨h.1, ?_⟩
  rcases h.2 with h4 | ⟨g, cap, cur, e2, hbg, hg, rest⟩
  · exact .inl h4
  · exact .inr ⟨g, cap, cur, e2, hbg, by rw [hk g (by rw [e2]; rfl)]; exact hg, rest⟩
set_option maxRecDepth 4000 in
theorem heap_pq {Sp : Nat → Prop} {w w' : World} (hk : ∀ b, Sp b → w'.heap[b]? = w.heap[b]?) : ∀ p : Addr, Sp p.block → w'.cell? p = w.cell? p ∧ w'.frozen? p = w.frozen? p := fun _ hp => ⟨World.cell?_of_block (hk _ hp), World.frozen?_of_block (hk _ hp)⟩
set_option maxRecDepth 4000 in
theorem OpnOk.keep {Sp Sq : Nat → Prop} {base d : Nat} {w w' : World} {o : Opn} (h : OpnOk Sp base d w o) (hq : ∀ b, Sp b → Sq b) (hk : ∀ b, Sp b ∨ o.vK.ownBlock = some b → w'.heap[b]? = w.heap[b]?) : OpnOk Sq base d w' o :=
  have hp := heap_pq fun b hb => hk b (.inl hb)
  ⟨h.np, h.nt, h.pc, h.tc, h.ntl, h.chk, h.props.keep hq hp, h.text.keep hq hp, row_kept h.row fun b hb => hk b (.inr hb), h.len, fun j m hm => by
    obtain ⟨u, h1, h2⟩ := h.kids j m hm
    exact ⟨u, h1, h2.keep hq hp⟩⟩
set_option maxRecDepth 4000 in
theorem tree_deep {P : Nat → Prop} {w : World} : ∀ {d d' : Nat} {v : Value} {n : NT}, d ≤ d' → TreeP P d w v n → TreeP P d' w v n
  | 0, _, _, _, _, h => h.elim
  | d + 1, 0, _, _, h, _ => absurd h (Nat.not_succ_le_zero _)
  | d + 1, d' + 1, _, _, hd, ⟨PA, pc, TA, tc, KA, kc, e, hp, ht, hf, hks⟩ => ⟨PA, pc, TA, tc, KA, kc, e, hp, ht, hf, fun k m hm => by
      obtain ⟨b, o, u, e1, hb, hn, hc, hz⟩ := hks k m hm
      exact ⟨b, o, u, e1, hb, tree_deep (Nat.le_of_succ_le_succ hd) hn, hc, hz⟩⟩
set_option maxRecDepth 4000 in
theorem OpnOk.deep {Sp : Nat → Prop} {base d d' : Nat} {w : World} {o : Opn} (h : OpnOk Sp base d w o) (hd : d ≤ d') : OpnOk Sp base d' w o :=
  ⟨h.np, h.nt, h.pc, h.tc, h.ntl, h.chk, h.props, h.text, h.row, h.len, fun j m hm => by
    obtain ⟨u, h1, h2⟩ := h.kids j m hm
    exact ⟨u, h1, tree_deep hd h2⟩⟩
set_option maxRecDepth 4000 in
/-- A node that has ended is a tree. -/
theorem cells4_of (us : List Value) : ∀ (j : Nat) (u c0 c1 c2 c3 : Value), (∀ x ∈ us, x.cells.size = 4) → us[j]? = some u → u = .agg #[c0, c1, c2, c3] → ∀ (i : Nat) (c : Value), [c0, c1, c2, c3][i]? = some c → (flatK us)[j * 4 + i]? = some c := by
  induction us with
  | nil => intro j u _ _ _ _ _ h; simp at h
  | cons x r ih =>
    intro j u c0 c1 c2 c3 h4 hu e i c hi
    have hx := h4 x (List.mem_cons_self ..)
    have hx' : x.cells.toList.length = 4 := by simpa using hx
    show (x.cells.toList ++ flatK r)[j * 4 + i]? = some c
    cases j with
    | zero =>
      simp at hu
      subst hu e
      have hi4 : i < 4 := (List.getElem?_eq_some_iff.1 hi).1
      rw [Nat.zero_mul, Nat.zero_add, List.getElem?_append_left (by rw [hx']; exact hi4)]
      exact hi
    | succ j =>
      rw [List.getElem?_append_right (by rw [hx']; omega), hx', show (j + 1) * 4 + i - 4 = j * 4 + i by omega]
      exact ih j u c0 c1 c2 c3 (fun y hy => h4 y (List.mem_cons_of_mem _ hy)) (by simpa using hu) e i c hi
set_option maxRecDepth 4000 in
theorem tree_four {P : Nat → Prop} {d : Nat} {w : World} {v : Value} {n : NT} (h : TreeP P d w v n) : ∃ c0 c1 c2 c3, v = .agg #[c0, c1, c2, c3] := by
  cases d with
  | zero => exact h.elim
  | succ d => obtain ⟨PA, pc, TA, tc, KA, kc, e, _⟩ := h; exact ⟨_, _, _, _, e⟩
set_option maxRecDepth 4000 in
theorem OpnOk.tree {Sp Sq : Nat → Prop} {base d : Nat} {w : World} {o : Opn} (h : OpnOk Sp base d w o) (hks : o.n.ks.length ≤ 40000) (hq : ∀ b, Sp b → Sq b) (ho : ∀ b, o.vK.ownBlock = some b → Sq b) : TreeP Sq (d + 1) w o.val o.n := by
  have hrow := h.row
  obtain ⟨KA, kc, e, hnc, _, hfree⟩ := rowFree hrow
  have h16 := chk_len h.chk
  have hsame : ∀ p : Addr, Sp p.block → w.cell? p = w.cell? p ∧ w.frozen? p = w.frozen? p := fun _ _ => ⟨rfl, rfl⟩
  have h4 : ∀ x ∈ o.us, x.cells.size = 4 := fun x hx => by
    obtain ⟨j, hj, rfl⟩ := List.mem_iff_getElem.1 hx
    obtain ⟨u, hu, ht⟩ := h.kids j _ (List.getElem?_eq_getElem (by rw [← h.len]; exact hj))
    rw [List.getElem?_eq_getElem hj] at hu
    injection hu with hu
    obtain ⟨c0, c1, c2, c3, e⟩ := tree_four ht
    rw [hu, e]; rfl
  have hw : Wide o.n.ps := ⟨by omega, fun p hp => by
    obtain ⟨a, b⟩ := chk_mem h.chk p hp
    have := (keyB_parts a).2.1
    have := (valB_parts b).1
    omega⟩
  refine ⟨o.PA, o.pc, o.TA, o.tc, KA, kc, by unfold Opn.val; rw [h.np, h.nt, e], h.props.keep hq hsame, h.text.keep hq hsame, ⟨hw, by omega, by have := h.ntl; have := h.nt; omega, by omega, by have := h.pc; have := h.np; omega, by have := h.tc; have := h.nt; omega, hnc⟩, fun k m hm => ?_⟩
  obtain ⟨u, hu, ht⟩ := h.kids k m hm
  obtain ⟨c0, c1, c2, c3, eu⟩ := tree_four ht
  have hc := fun i c hi => hfree (k * 4 + i) c (cells4_of o.us k u c0 c1 c2 c3 h4 hu eu i c hi)
  obtain ⟨g, hg, _, _, _⟩ := hc 0 _ rfl
  subst hg
  have hc' : ∀ i c, [c0, c1, c2, c3][i]? = some c → Free w g (0 + k * 4 + i) c := fun i c hi => by
    obtain ⟨g', e', _, _, h5⟩ := hc i c hi
    injection e' with e'
    injection e' with e'
    subst e'
    rw [Nat.zero_add]; exact h5
  exact ⟨g, 0, u, rfl, ho g (by rw [e]; rfl), ht.keep hq hsame, ⟨c0, c1, c2, c3, eu, (hc' 0 _ rfl).1, (hc' 1 _ rfl).1, (hc' 2 _ rfl).1, (hc' 3 _ rfl).1⟩, (hc' 0 _ rfl).2⟩

def tot : List Opn → Nat
  | [] => 0
  | o :: r => 1 + o.n.ks.length + tot r
set_option maxRecDepth 4000 in
theorem tot_append (a b : List Opn) : tot (a ++ b) = tot a + tot b := by
  induction a with
  | nil => simp [tot]
  | cons o r ih => simp only [List.cons_append, tot, ih]; omega
/-- All open nodes, the outermost first; X: a block of the call's own that is none of theirs. -/
structure Stk (Sp : Nat → Prop) (base d : Nat) (w : World) (v : Value) (L : List Opn) (X : Nat) : Prop where
  row : w.ownsRow base 26 4 v L.length (flatK (L.map Opn.val))
  ok : ∀ o ∈ L, OpnOk Sp base d w o
  sp : ∀ b, Sp b → base ≤ b ∧ b < w.heap.size ∧ b ≠ X ∧ v.ownBlock ≠ some b ∧ ∀ o ∈ L, o.vK.ownBlock ≠ some b
  vX : v.ownBlock ≠ some X
  kX : ∀ o ∈ L, o.vK.ownBlock ≠ some X ∧ ∀ b, o.vK.ownBlock = some b → v.ownBlock ≠ some b
  dist : L.Pairwise fun o p => ∀ b, o.vK.ownBlock = some b → p.vK.ownBlock ≠ some b
section
variable {Sp Sq : Nat → Prop} {base d X : Nat} {w w' : World} {v : Value} {L : List Opn} {o p : Opn}
set_option maxRecDepth 4000 in
theorem Stk.nil (base d X : Nat) (w : World) : Stk (fun _ => False) base d w (.slice none 0 0) [] X :=
  ⟨World.ownsRow_nil _ _ _ _, fun o ho => by simp at ho, fun b hb => hb.elim, by simp [Value.ownBlock], fun o ho => by simp at ho, List.Pairwise.nil⟩
set_option maxRecDepth 4000 in
theorem Stk.own_lt (h : Stk Sp base d w v L X) {b : Nat} (hb : v.ownBlock = some b) : base ≤ b ∧ b < w.heap.size := h.row.lt b hb
set_option maxRecDepth 4000 in
theorem Stk.kid_lt (h : Stk Sp base d w v L X) (ho : o ∈ L) {b : Nat} (hb : o.vK.ownBlock = some b) : base ≤ b ∧ b < w.heap.size := (h.ok o ho).row.lt b hb
set_option maxRecDepth 4000 in
/-- A world in which all of theirs is as it was. -/
theorem Stk.keep (h : Stk Sp base d w v L X) (hs : w.heap.size ≤ w'.heap.size) (hk : ∀ b, base ≤ b → b < w.heap.size → b ≠ X → w'.heap[b]? = w.heap[b]?) : Stk Sp base d w' v L X :=
  ⟨row_kept h.row fun b hb => hk b (h.own_lt hb).1 (h.own_lt hb).2 (fun e => h.vX (by rw [hb, e])),
    fun o ho => (h.ok o ho).keep (fun _ hb => hb) fun b hb => by
      rcases hb with hb | hb
      · obtain ⟨h1, h2, h3, _⟩ := h.sp b hb
        exact hk b h1 h2 h3
      · exact hk b (h.kid_lt ho hb).1 (h.kid_lt ho hb).2 (fun e => (h.kX o ho).1 (by rw [hb, e])),
    fun b hb => by obtain ⟨h1, h2, h3⟩ := h.sp b hb; exact ⟨h1, by omega, h3⟩, h.vX, h.kX, h.dist⟩
set_option maxRecDepth 4000 in
/-- New blocks, another X. -/
theorem Stk.fresh (h : Stk Sp base d w v L X) (hb : base ≤ w.heap.size) {Y : Nat} (hY : w'.heap.size ≤ Y) (hs : w.heap.size ≤ w'.heap.size) (hk : ∀ b, base ≤ b → b < w.heap.size → b ≠ X → w'.heap[b]? = w.heap[b]?) :
    Stk (fun b => Sp b ∨ (w.heap.size ≤ b ∧ b < w'.heap.size)) base d w' v L Y := by
  have k := h.keep hs hk
  refine ⟨k.row, fun o ho => (k.ok o ho).keep (fun _ h => .inl h) fun _ _ => rfl, fun b hb => ?_, fun e => by have := (h.own_lt e).2; omega, fun o ho => ⟨fun e => by have := (h.kid_lt ho e).2; omega, (k.kX o ho).2⟩, k.dist⟩
  rcases hb with hb | hb
  · obtain ⟨h1, h2, h3, h4⟩ := h.sp b hb
    exact ⟨h1, by omega, by omega, h4⟩
  · exact ⟨by omega, hb.2, by omega, fun e => by have := (h.own_lt e).2; omega, fun o ho e => by have := (h.kid_lt ho e).2; omega⟩
set_option maxRecDepth 4000 in
theorem Stk.deep {d' : Nat} (h : Stk Sp base d w v L X) (hd : d ≤ d') : Stk Sp base d' w v L X := ⟨h.row, fun o ho => (h.ok o ho).deep hd, h.sp, h.vX, h.kX, h.dist⟩
set_option maxRecDepth 4000 in
/-- One more, without Kids. -/
theorem Stk.push {v' : Value} {W : World} (h : Stk Sp base d w v L X) (hX : X < w.heap.size) (ho : OpnOk Sp base d w o) (hvK : o.vK = .slice none 0 0) (hW : ∀ b, b < w.heap.size → W.heap[b]? = w.heap[b]?) (hWs : w.heap.size ≤ W.heap.size) (hown : w'.ownsRow base 26 4 v' (L.length + 1) (flatK (L.map Opn.val) ++ o.row4)) (hgrow : W.grownBy w' v.ownBlock)
    (hat : v'.ownBlock = v.ownBlock ∨ ∃ g, v'.ownBlock = some g ∧ w.heap.size ≤ g) : Stk Sp base d w' v' (L ++ [o]) X := by
  have hk : ∀ b, b < w.heap.size → v.ownBlock ≠ some b → w'.heap[b]? = w.heap[b]? := fun b h1 h2 => (hgrow.block b (by omega) (fun e => h2 e.symm)).trans (hW b h1)
  have hsz := hgrow.size
  have hv : ∀ b, b < w.heap.size → v.ownBlock ≠ some b → v'.ownBlock ≠ some b := fun b h1 h2 => by
    rcases hat with e | ⟨g, e, hg⟩
    · rw [e]; exact h2
    · rw [e]; intro e2; injection e2 with e2; omega
  have hno : ∀ b, o.vK.ownBlock ≠ some b := fun b e => by rw [hvK] at e; cases e
  refine ⟨?_, fun p hp => ?_, fun b hb => ?_, hv X hX h.vX, fun p hp => ?_, ?_⟩
  · rw [List.length_append, List.map_append, flatK_append, show flatK (List.map Opn.val [o]) = o.row4 from by rw [flat_vals]; simp]; exact hown
  · rcases List.mem_append.1 hp with hp | hp
    · refine (h.ok p hp).keep (fun _ h => h) fun b hb => ?_
      rcases hb with hb | hb
      · obtain ⟨_, h2, _, h4, _⟩ := h.sp b hb
        exact hk b h2 h4
      · exact hk b (h.kid_lt hp hb).2 ((h.kX p hp).2 b hb)
    · rw [List.mem_singleton] at hp
      subst hp
      refine ho.keep (fun _ h => h) fun b hb => ?_
      rcases hb with hb | hb
      · obtain ⟨_, h2, _, h4, _⟩ := h.sp b hb
        exact hk b h2 h4
      · exact absurd hb (hno b)
  · obtain ⟨h1, h2, h3, h4, h5⟩ := h.sp b hb
    refine ⟨h1, by omega, h3, hv b h2 h4, fun p hp => ?_⟩
    rcases List.mem_append.1 hp with hp | hp
    · exact h5 p hp
    · rw [List.mem_singleton] at hp; subst hp; exact hno b
  · rcases List.mem_append.1 hp with hp | hp
    · exact ⟨(h.kX p hp).1, fun b hb => hv b (h.kid_lt hp hb).2 ((h.kX p hp).2 b hb)⟩
    · rw [List.mem_singleton] at hp; subst hp; exact ⟨hno X, fun b hb => absurd hb (hno b)⟩
  · rw [List.pairwise_append]
    exact ⟨h.dist, List.pairwise_singleton _ _, fun p _ q hq b _ => by rw [List.mem_singleton] at hq; subst hq; exact hno b⟩
set_option maxRecDepth 4000 in
/-- The last one leaves. -/
theorem Stk.pop {A : Option Addr} {c m : Nat} (h : Stk Sp base d w (.slice A m c) (L ++ [o]) X) : Stk Sp base d w (.slice A L.length c) L X ∧ OpnOk Sp base d w o ∧ (∀ b, o.vK.ownBlock = some b → base ≤ b ∧ b < w.heap.size ∧ b ≠ X ∧ (Value.slice A L.length c).ownBlock ≠ some b ∧ ∀ p ∈ L, p.vK.ownBlock ≠ some b) := by
  have e : ∀ k, (Value.slice A k c).ownBlock = (Value.slice A m c).ownBlock := fun k => by cases A <;> rfl
  have hm : ∀ p, p ∈ L → p ∈ L ++ [o] := fun p hp => List.mem_append.2 (.inl hp)
  have ho : o ∈ L ++ [o] := List.mem_append.2 (.inr (List.mem_singleton.2 rfl))
  have hpw := List.pairwise_append.1 h.dist
  refine ⟨⟨?_, fun p hp => h.ok p (hm p hp), fun b hb => ?_, by rw [e]; exact h.vX, fun p hp => by rw [e]; exact h.kX p (hm p hp), hpw.1⟩, h.ok o ho, fun b hb => ⟨(h.kid_lt ho hb).1, (h.kid_lt ho hb).2, fun e2 => (h.kX o ho).1 (by rw [hb, e2]), by rw [e]; exact (h.kX o ho).2 b hb, fun p hp e2 => hpw.2.2 p hp o (List.mem_singleton.2 rfl) b e2 hb⟩⟩
  · have hr := h.row
    rw [List.length_append, List.length_singleton] at hr
    refine ⟨flat_len L, ?_⟩
    rcases hr.2 with ⟨_, e0⟩ | ⟨g, cap, cur, e1, hB, hg, hc, hmx, hs, hx⟩
    · simp at e0
    · injection e1 with e1 e2 e3
      refine .inr ⟨g, cap, cur, by rw [e1, e3], hB, hg, by omega, hmx, hs, ?_⟩
      have h2 := congrArg (List.take (L.length * 4)) hx
      rw [List.take_take, show min (L.length * 4) ((L.length + 1) * 4) = L.length * 4 by omega] at h2
      rw [h2, List.map_append, flatK_append]
      exact List.take_left' (flat_len L)
  · obtain ⟨h1, h2, h3, h4, h5⟩ := h.sp b hb
    exact ⟨h1, h2, h3, by rw [e]; exact h4, fun p hp => h5 p (hm p hp)⟩
/-- The one that left becomes a kid of the last one. -/
def Opn.with1 (p : Opn) (vK : Value) (u : Value) (m : NT) : Opn := { p with vK := vK, us := p.us ++ [u], n := addK p.n m }
set_option maxRecDepth 4000 in
theorem Stk.kid {vK' : Value} (h : Stk Sp base d w v (L ++ [p]) X) (hX : X < w.heap.size) (ho : OpnOk Sp base d w o) (hob : ∀ b, o.vK.ownBlock = some b → base ≤ b ∧ b < w.heap.size ∧ b ≠ X ∧ v.ownBlock ≠ some b ∧ ∀ q ∈ L ++ [p], q.vK.ownBlock ≠ some b) (hks : o.n.ks.length ≤ 40000) (hs : w.heap.size ≤ w'.heap.size)
    (hkid : w'.ownsRow base 26 4 vK' (p.n.ks.length + 1) (flatK p.us ++ o.row4))
    (hrow : w'.ownsRow base 26 4 v (L.length + 1) (flatK (L.map Opn.val) ++ [.bool p.n.lf, .slice p.PA p.np p.pc, .slice p.TA p.nt p.tc, vK']))
    (hk : ∀ b, b < w.heap.size → v.ownBlock ≠ some b → p.vK.ownBlock ≠ some b → w'.heap[b]? = w.heap[b]?)
    (hat : vK'.ownBlock = p.vK.ownBlock ∨ ∃ g, vK'.ownBlock = some g ∧ w.heap.size ≤ g) :
    Stk (fun b => Sp b ∨ o.vK.ownBlock = some b) base (d + 1) w' v (L ++ [p.with1 vK' o.val o.n]) X := by
  have hp : p ∈ L ++ [p] := List.mem_append.2 (.inr (List.mem_singleton.2 rfl))
  have hm : ∀ q, q ∈ L → q ∈ L ++ [p] := fun q hq => List.mem_append.2 (.inl hq)
  have hpw := List.pairwise_append.1 h.dist
  have hpd : ∀ q ∈ L, ∀ b, q.vK.ownBlock = some b → p.vK.ownBlock ≠ some b := fun q hq => hpw.2.2 q hq p (List.mem_singleton.2 rfl)
  have hkS : ∀ b, Sp b → w'.heap[b]? = w.heap[b]? := fun b hb => by
    obtain ⟨_, h2, _, h4, h5⟩ := h.sp b hb
    exact hk b h2 h4 (h5 p hp)
  have hkO : ∀ b, o.vK.ownBlock = some b → w'.heap[b]? = w.heap[b]? := fun b hb => by
    obtain ⟨_, h2, _, h4, h5⟩ := hob b hb
    exact hk b h2 h4 (h5 p hp)
  have hvn : ∀ b, b < w.heap.size → p.vK.ownBlock ≠ some b → vK'.ownBlock ≠ some b := fun b h1 h2 => by
    rcases hat with e | ⟨g, e, hg⟩
    · rw [e]; exact h2
    · rw [e]; intro e2; injection e2 with e2; omega
  refine ⟨?_, fun q hq => ?_, fun b hb => ?_, h.vX, fun q hq => ?_, ?_⟩
  · rw [List.length_append, List.map_append, flatK_append, show flatK (List.map Opn.val [p.with1 vK' o.val o.n]) = [.bool p.n.lf, .slice p.PA p.np p.pc, .slice p.TA p.nt p.tc, vK'] from by rw [flat_vals]; simp [Opn.row4, Opn.with1, addK, NT.lf]]
    exact hrow
  · rcases List.mem_append.1 hq with hq | hq
    · refine ((h.ok q (hm q hq)).deep (Nat.le_succ d)).keep (fun _ h => .inl h) fun b hb => ?_
      rcases hb with hb | hb
      · exact hkS b hb
      · exact hk b (h.kid_lt (hm q hq) hb).2 ((h.kX q (hm q hq)).2 b hb) (hpd q hq b hb)
    · rw [List.mem_singleton] at hq
      subst hq
      have hpo := h.ok p hp
      have hpq := heap_pq hkS
      have eks : (p.with1 vK' o.val o.n).n.ks = p.n.ks ++ [o.n] := by simp [Opn.with1, addK, NT.ks]
      refine ⟨hpo.np, hpo.nt, hpo.pc, hpo.tc, hpo.ntl, hpo.chk, hpo.props.keep (fun _ h => .inl h) hpq, hpo.text.keep (fun _ h => .inl h) hpq, ?_, ?_, fun j m hj => ?_⟩
      · rw [eks, List.length_append, List.length_singleton]
        show w'.ownsRow base 26 4 vK' _ (flatK (p.us ++ [o.val]))
        rw [flatK_append]
        have : flatK [o.val] = o.row4 := by simp [flatK, Opn.val, Opn.row4, Value.cells]
        rw [this]; exact hkid
      · rw [eks, List.length_append, List.length_singleton]
        show (p.us ++ [o.val]).length = _
        rw [List.length_append, hpo.len]; rfl
      · rw [eks] at hj
        show ∃ u, (p.us ++ [o.val])[j]? = some u ∧ _
        rcases Nat.lt_or_ge j p.n.ks.length with hjk | hjk
        · rw [List.getElem?_append_left hjk] at hj
          obtain ⟨u, hu, ht⟩ := hpo.kids j m hj
          exact ⟨u, by rw [List.getElem?_append_left (by rw [hpo.len]; exact hjk)]; exact hu, tree_deep (Nat.le_succ d) (ht.keep (fun _ h => .inl h) hpq)⟩
        · rw [List.getElem?_append_right hjk] at hj
          have hj0 : j - p.n.ks.length = 0 := by
            have := (List.getElem?_eq_some_iff.1 hj).1
            simp at this; omega
          rw [hj0] at hj
          simp only [List.getElem?_cons_zero, Option.some.injEq] at hj
          subst hj
          refine ⟨o.val, by rw [List.getElem?_append_right (by rw [hpo.len]; exact hjk), hpo.len, hj0]; rfl, ?_⟩
          refine (ho.tree (Sq := fun b => Sp b ∨ o.vK.ownBlock = some b) hks (fun _ h => .inl h) (fun _ h => .inr h)).keep (fun _ h => h) (heap_pq fun b hb => ?_)
          rcases hb with hb | hb
          · exact hkS b hb
          · exact hkO b hb
  · rcases hb with hb | hb
    · obtain ⟨h1, h2, h3, h4, h5⟩ := h.sp b hb
      refine ⟨h1, by omega, h3, h4, fun q hq => ?_⟩
      rcases List.mem_append.1 hq with hq | hq
      · exact h5 q (hm q hq)
      · rw [List.mem_singleton] at hq; subst hq; exact hvn b h2 (h5 p hp)
    · obtain ⟨h1, h2, h3, h4, h5⟩ := hob b hb
      refine ⟨h1, by omega, h3, h4, fun q hq => ?_⟩
      rcases List.mem_append.1 hq with hq | hq
      · exact h5 q (hm q hq)
      · rw [List.mem_singleton] at hq; subst hq; exact hvn b h2 (h5 p hp)
  · rcases List.mem_append.1 hq with hq | hq
    · exact h.kX q (hm q hq)
    · rw [List.mem_singleton] at hq
      subst hq
      refine ⟨hvn X hX (h.kX p hp).1, fun b hb => ?_⟩
      show v.ownBlock ≠ some b
      have hb : vK'.ownBlock = some b := hb
      rcases hat with e | ⟨g, e, hg⟩
      · rw [e] at hb; exact (h.kX p hp).2 b hb
      · rw [e] at hb
        injection hb with hb
        intro e2
        have := (h.own_lt e2).2
        omega
  · rw [List.pairwise_append]
    refine ⟨hpw.1, List.pairwise_singleton _ _, fun q hq r hr b hb => ?_⟩
    rw [List.mem_singleton] at hr
    subst hr
    exact hvn b (h.kid_lt (hm q hq) hb).2 (hpd q hq b hb)
end
/-- Four cells stored at a row's end, and one. -/
def set4At (w : World) (g q : Nat) (a b c d : Value) : World := (((w.setCell ⟨g, q, none⟩ a).setCell ⟨g, q + 1, none⟩ b).setCell ⟨g, q + 2, none⟩ c).setCell ⟨g, q + 3, none⟩ d
set_option maxRecDepth 4000 in
theorem store4 {w : World} {base n m c g : Nat} {t : TypeId} {xs : List Value} {z0 z1 z2 z3 a b x d : Value} (h : w.ownsRow base t 4 (.slice (some ⟨g, 0, none⟩) m c) m (xs ++ [z0, z1, z2, z3])) (hl : xs.length = n * 4) :
    (set4At w g (n * 4) a b x d).ownsRow base t 4 (.slice (some ⟨g, 0, none⟩) m c) m (xs ++ [a, b, x, d]) := by
  have h1 := (h.stored (n * 4) a).1
  have h2 := (h1.stored (n * 4 + 1) b).1
  have h3 := (h2.stored (n * 4 + 2) x).1
  have h4 := (h3.stored (n * 4 + 3) d).1
  have e : ((((xs ++ [z0, z1, z2, z3]).set (n * 4) a).set (n * 4 + 1) b).set (n * 4 + 2) x).set (n * 4 + 3) d = xs ++ [a, b, x, d] := by
    rw [← hl]
    simp [List.set_append_right]
  rw [e] at h4
  exact h4
set_option maxRecDepth 4000 in
theorem store1 {w : World} {base n m c g : Nat} {t : TypeId} {xs : List Value} {z0 z1 z2 z3 x : Value} (h : w.ownsRow base t 4 (.slice (some ⟨g, 0, none⟩) m c) m (xs ++ [z0, z1, z2, z3])) (hl : xs.length = n * 4) :
    (w.setCell ⟨g, n * 4 + 3, none⟩ x).ownsRow base t 4 (.slice (some ⟨g, 0, none⟩) m c) m (xs ++ [z0, z1, z2, x]) := by
  have h1 := (h.stored (n * 4 + 3) x).1
  have e : (xs ++ [z0, z1, z2, z3]).set (n * 4 + 3) x = xs ++ [z0, z1, z2, x] := by
    rw [← hl]
    simp [List.set_append_right]
  rw [e] at h1
  exact h1
set_option maxRecDepth 4000 in
theorem set4_far {w : World} {g q k : Nat} {a b c d : Value} (hk : k ≠ g) : (set4At w g q a b c d).heap[k]? = w.heap[k]? := by
  unfold set4At
  rw [Below.heap_setCell _ _ _ _ (show k ≠ g from hk), Below.heap_setCell _ _ _ _ (show k ≠ g from hk), Below.heap_setCell _ _ _ _ (show k ≠ g from hk), Below.heap_setCell _ _ _ _ (show k ≠ g from hk)]
set_option maxRecDepth 4000 in
theorem set4_sz {w : World} {g q : Nat} {a b c d : Value} : (set4At w g q a b c d).heap.size = w.heap.size := by unfold set4At; simp

end Go.Proofs.YtknkclbjocfhiaaDoor

namespace Go.Proofs.YtknkclbjocfhiaaDoor
open Go.RowKit

theorem set4_env (w : World) (g q : Nat) (a b c d : Value) : (set4At w g q a b c d).os = w.os ∧ (set4At w g q a b c d).tape = w.tape ∧ (set4At w g q a b c d).output = w.output := ⟨rfl, rfl, rfl⟩
set_option maxRecDepth 4000 in
theorem setC_env (w : World) (p : Addr) (u : Value) : (w.setCell p u).os = w.os ∧ (w.setCell p u).tape = w.tape ∧ (w.setCell p u).output = w.output := ⟨rfl, rfl, rfl⟩
set_option maxRecDepth 4000 in
set_option maxHeartbeats 1000000 in
theorem kid_fin {Sp : Nat → Prop} {base d g5 gv gk c ck nk : Nat} {Ws w1 w2 W4 : World} {L1 : List Opn} {o p : Opn} {tmp : Obj} {z0 z1 z2 z3 a b x y : Value}
    (hst : Stk Sp base d Ws (.slice (some ⟨gv, 0, none⟩) (L1.length + 1) c) (L1 ++ [p]) g5) (ho : OpnOk Sp base d Ws o)
    (hob : ∀ b, o.vK.ownBlock = some b → base ≤ b ∧ b < Ws.heap.size ∧ b ≠ g5 ∧ (Value.slice (some ⟨gv, 0, none⟩) (L1.length + 1) c).ownBlock ≠ some b ∧ ∀ q ∈ L1 ++ [p], q.vK.ownBlock ≠ some b)
    (hks : o.n.ks.length ≤ 40000) (hg5 : g5 < Ws.heap.size) (hrow4 : o.row4 = [a, b, x, y])
    (hw1 : ∀ k, k < Ws.heap.size → w1.heap[k]? = Ws.heap[k]?) (hws : Ws.heap.size ≤ w1.heap.size) (hnk : nk = p.n.ks.length)
    (hown : w2.ownsRow base 26 4 (.slice (some ⟨gk, 0, none⟩) (nk + 1) ck) (nk + 1) (flatK p.us ++ [z0, z1, z2, z3])) (hgrow : (w1.alloc tmp).grownBy w2 p.vK.ownBlock)
    (hat : (Value.slice (some ⟨gk, 0, none⟩) (nk + 1) ck).ownBlock = p.vK.ownBlock ∨ ∃ g, (Value.slice (some ⟨gk, 0, none⟩) (nk + 1) ck).ownBlock = some g ∧ w1.heap.size + 1 ≤ g)
    (h4 : W4 = (set4At w2 gk (nk * 4) a b x y).setCell ⟨gv, L1.length * 4 + 3, none⟩ (.slice (some ⟨gk, 0, none⟩) (nk + 1) ck) ∨ W4 = set4At (w2.setCell ⟨gv, L1.length * 4 + 3, none⟩ (.slice (some ⟨gk, 0, none⟩) (nk + 1) ck)) gk (nk * 4) a b x y) :
    Stk (fun b => Sp b ∨ o.vK.ownBlock = some b) base (d + 1) W4 (.slice (some ⟨gv, 0, none⟩) (L1.length + 1) c) (L1 ++ [p.with1 (.slice (some ⟨gk, 0, none⟩) (nk + 1) ck) o.val o.n]) g5 ∧
      (∀ b, b < Ws.heap.size → b ≠ gv → p.vK.ownBlock ≠ some b → W4.heap[b]? = Ws.heap[b]?) ∧ Ws.heap.size ≤ W4.heap.size ∧ W4.os = w1.os ∧ W4.tape = w1.tape ∧ W4.output = w1.output := by
  subst hnk
  have hp : p ∈ L1 ++ [p] := List.mem_append.2 (.inr (List.mem_singleton.2 rfl))
  have hgs := hgrow.size
  have hgvl : gv < Ws.heap.size := (hst.own_lt (b := gv) rfl).2
  have hgvp : p.vK.ownBlock ≠ some gv := fun e => (hst.kX p hp).2 gv e rfl
  have hgk : gk ≠ gv := by
    rintro rfl
    rcases hat with e | ⟨g, e, hg⟩
    · exact hgvp e.symm
    · injection e with e
      have e : gk = g := e
      omega
  have hk2 : ∀ k, k < Ws.heap.size → p.vK.ownBlock ≠ some k → w2.heap[k]? = Ws.heap[k]? := fun k h1 h2 =>
    (hgrow.block k (by simp; omega) (fun e => h2 e.symm)).trans ((Below.heap_alloc _ _ _ (by omega)).trans (hw1 k h1))
  have hgk2 : ∀ k, k < Ws.heap.size → p.vK.ownBlock ≠ some k → k ≠ gk := by
    rintro k h1 h2 rfl
    rcases hat with e | ⟨g, e, hg⟩
    · exact h2 e.symm
    · injection e with e
      have e : k = g := e
      omega
  have hr0 := hst.row
  rw [List.length_append, List.length_singleton, List.map_append, flatK_append, show flatK (List.map Opn.val [p]) = p.row4 from by rw [flat_vals]; simp] at hr0
  have hr2 : w2.ownsRow base 26 4 (.slice (some ⟨gv, 0, none⟩) (L1.length + 1) c) (L1.length + 1) (flatK (L1.map Opn.val) ++ p.row4) := row_kept hr0 fun b hb => by
    obtain rfl : gv = b := Option.some.inj hb
    exact hk2 gv hgvl hgvp
  have hlf := flat_len L1
  have hlp : (flatK p.us).length = p.n.ks.length * 4 := (hst.ok p hp).row.1
  have hsz : w2.heap.size ≥ Ws.heap.size := by simp at hgs; omega
  have fin : W4.heap.size = w2.heap.size ∧ (∀ k, k ≠ gv → k ≠ gk → W4.heap[k]? = w2.heap[k]?) ∧ W4.os = w2.os ∧ W4.tape = w2.tape ∧ W4.output = w2.output ∧
      W4.ownsRow base 26 4 (.slice (some ⟨gk, 0, none⟩) (p.n.ks.length + 1) ck) (p.n.ks.length + 1) (flatK p.us ++ o.row4) ∧
      W4.ownsRow base 26 4 (.slice (some ⟨gv, 0, none⟩) (L1.length + 1) c) (L1.length + 1) (flatK (L1.map Opn.val) ++ [.bool p.n.lf, .slice p.PA p.np p.pc, .slice p.TA p.nt p.tc, .slice (some ⟨gk, 0, none⟩) (p.n.ks.length + 1) ck]) := by
    rw [hrow4]
    rcases h4 with rfl | rfl
    · refine ⟨by simp [set4_sz], fun k h1 h2 => (Below.heap_setCell _ _ _ _ (show k ≠ gv from h1)).trans (set4_far h2), (setC_env _ _ _).1.trans (set4_env _ _ _ _ _ _ _).1, (setC_env _ _ _).2.1.trans (set4_env _ _ _ _ _ _ _).2.1, (setC_env _ _ _).2.2.trans (set4_env _ _ _ _ _ _ _).2.2, ?_, ?_⟩
      · exact ownsRow_setCell_other (store4 hown hlp) (a := ⟨gv, L1.length * 4 + 3, none⟩) (fun e => hgk (Option.some.inj e)) _
      · refine store1 (row_kept hr2 fun b hb => ?_) hlf
        obtain rfl : gv = b := Option.some.inj hb
        exact set4_far (Ne.symm hgk)
    · refine ⟨by simp [set4_sz], fun k h1 h2 => (set4_far h2).trans (Below.heap_setCell _ _ _ _ (show k ≠ gv from h1)), (set4_env _ _ _ _ _ _ _).1.trans (setC_env _ _ _).1, (set4_env _ _ _ _ _ _ _).2.1.trans (setC_env _ _ _).2.1, (set4_env _ _ _ _ _ _ _).2.2.trans (setC_env _ _ _).2.2, ?_, ?_⟩
      · exact store4 (ownsRow_setCell_other hown (a := ⟨gv, L1.length * 4 + 3, none⟩) (fun e => hgk (Option.some.inj e)) _) hlp
      · refine row_kept (store1 hr2 hlf) fun b hb => ?_
        obtain rfl : gv = b := Option.some.inj hb
        exact set4_far (Ne.symm hgk)
  obtain ⟨f1, f2, f3, f4, f5, f6, f7⟩ := fin
  have hkb : ∀ b, b < Ws.heap.size → b ≠ gv → p.vK.ownBlock ≠ some b → W4.heap[b]? = Ws.heap[b]? := fun b h1 h2 h3 => (f2 b h2 (hgk2 b h1 h3)).trans (hk2 b h1 h3)
  refine ⟨hst.kid hg5 ho hob hks (by omega) f6 f7 (fun b h1 h2 h3 => hkb b h1 (fun e => h2 (by rw [e]; rfl)) h3) ?_, hkb, by omega, f3.trans hgrow.os, f4.trans hgrow.tape, f5.trans hgrow.output⟩
  rcases hat with e | ⟨g, e, hg⟩
  · exact .inl e
  · exact .inr ⟨g, e, by omega⟩

end Go.Proofs.YtknkclbjocfhiaaDoor
