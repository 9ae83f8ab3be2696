/- Bits of sixteen: how many noughts it ends in, by the library's table; whether it is a power of two. A number's hexadecimal digits, appended by the library to a row of the call's own. -/
import Derived.Test.YtknkclbjocfhiaaDoorGMem
import Derived.Laws.BitsLemmas
namespace Go.Proofs.YtknkclbjocfhiaaDoor
open Go.RowKit

/-- What the table says in the one place that is read. -/
def Tab (w : World) : Prop := w.cell? ⟨3, 15, none⟩ = some (.int .u8 4) ∧ 3 < w.heap.size
set_option maxRecDepth 4000 in
theorem Tab.below {w w' : World} (h : Tab w) (hb : Below w.heap.size w w') : Tab w' := ⟨(hb.cell (p := ⟨3, 15, none⟩) h.2).trans h.1, Nat.lt_of_lt_of_le h.2 hb.size⟩

set_option maxRecDepth 4000 in
theorem tz64_any (w : World) (h : Hid (Tab w)) : Calls Tryd.prog 113 #[.int .u64 16] w fun e w' => e = .returned (.int .i64 4) ∧ w = w' := by
  have hc := h.out.1
  have h1 : bits BinOp.and IntKind.u64 16 (IntKind.u64.wrap (-16)) = 16 := by kernel_rfl
  have h2 : IntKind.u64.wrap (16 * 285870213051353865) / 288230376151711744 = 15 := by kernel_rfl
  go_enter Tryd.func113, Tryd.ntmps113
  go_wp2
  go_ret
  exact ⟨rfl, rfl⟩
set_option maxRecDepth 4000 in
theorem tz_any (w : World) (h : Hid (Tab w)) : Calls Tryd.prog 109 #[.int .u64 16] w fun e w' => e = .returned (.int .i64 4) ∧ w = w' := by
  have HC := hd (tz64_any w h)
  go_enter Tryd.func109, Tryd.ntmps109
  go_wp2_with fail
  refine HC.out.mono ?_
  rintro e w' ⟨rfl, rfl⟩
  go_wp2
  go_ret
  exact ⟨rfl, rfl⟩
set_option maxRecDepth 4000 in
theorem isPow_any (w : World) : Calls Tryd.prog 108 #[.int .i64 16] w fun e w' => e = .returned (.bool true) ∧ w = w' := by
  have h1 : bits BinOp.and IntKind.i64 16 15 = 0 := by kernel_rfl
  go_enter Tryd.func108, Tryd.ntmps108
  go_wp2
  go_ret
  exact ⟨rfl, rfl⟩

end Go.Proofs.YtknkclbjocfhiaaDoor

namespace Go.Proofs.YtknkclbjocfhiaaDoor
open Go.RowKit
open Go.WideShapes (add_plain)

theorem zero65 : ∃ Z : Array Value, Z.size = 65 ∧ ∀ w, (zeroValue 122).run Tryd.prog w = .ok (.agg Z) w :=
  ⟨Array.replicate 65 (.int .u8 0), by simp, fun _ => by kernel_rfl⟩
set_option maxRecDepth 4000 in
theorem and15 (U : Nat) (h : U < 9223372036854775807) : bits BinOp.and IntKind.u64 (U : Int) 15 = ((U % 16 : Nat) : Int) := by
  have := bits_mask .u64 63 (by decide) (fun n h0 h1 => by
    have e : IntKind.u64.wrap n = n % 18446744073709551616 := by simp [IntKind.wrap, IntKind.bits, IntKind.signed]
    rw [e]; omega) 4 (by decide) U (by omega) (by omega)
  simpa using this
set_option maxRecDepth 4000 in
theorem lit_dg (s : ByteArray) (hs : s = ⟨#[48, 49, 50, 51, 52, 53, 54, 55, 56, 57, 97, 98, 99, 100, 101, 102, 103, 104, 105, 106, 107, 108, 109, 110, 111, 112, 113, 114, 115, 116, 117, 118, 119, 120, 121, 122]⟩) (m : Nat) (hm : m < 16) (h : m < s.size) : s[m] = dg m := by
  subst hs
  have : ∀ m : Fin 16, (⟨#[48, 49, 50, 51, 52, 53, 54, 55, 56, 57, 97, 98, 99, 100, 101, 102, 103, 104, 105, 106, 107, 108, 109, 110, 111, 112, 113, 114, 115, 116, 117, 118, 119, 120, 121, 122]⟩ : ByteArray)[m.val]'(Nat.lt_of_lt_of_le m.isLt (by decide)) = dg m.val := by decide
  exact this ⟨m, hm⟩

/-- The cells from q on are these bytes. -/
def Tail (cs : Array Value) (q : Nat) (dl : List UInt8) : Prop := q + dl.length = 65 ∧ cs.size = 65 ∧ ∀ j, j < dl.length → cs[q + j]? = (bv dl)[j]?
set_option maxRecDepth 4000 in
theorem Tail.start (cs : Array Value) (h : cs.size = 65) : Tail cs 65 [] := ⟨rfl, h, fun _ hj => absurd hj (Nat.not_lt_zero _)⟩
set_option maxRecDepth 4000 in
theorem Tail.more {cs : Array Value} {q : Nat} {dl : List UInt8} (h : Tail cs q dl) (hq : 1 ≤ q) (b : UInt8) : Tail (cs.setIfInBounds (q - 1) (.int .u8 b.toNat)) (q - 1) (b :: dl) := by
  obtain ⟨h1, h2, h3⟩ := h
  refine ⟨by simp; omega, by simp [h2], fun j hj => ?_⟩
  rw [Array.getElem?_setIfInBounds]
  cases j with
  | zero => rw [if_pos (by omega), if_pos (by omega)]; simp [bv]
  | succ j =>
    rw [if_neg (by omega), show q - 1 + (j + 1) = q + j by omega, h3 j (by simpa using hj)]
    simp [bv]

set_option maxRecDepth 4000 in
theorem slice65 (g q : Nat) (h1 : 1 ≤ q) (h2 : q ≤ 65) (W : World) : (Instr.sliceAt 122 (.pointer (some ⟨g, 0, none⟩)) (some (.int .i64 ((q : Int) - 1))) none none).run Tryd.prog W = .ok (.slice (some ⟨g, q - 1, none⟩) (66 - q) (66 - q)) W := by
  have ha : Tryd.prog.arrayLen 122 = 65 := by kernel_rfl
  have he : Tryd.prog.elem 122 = 5 := by kernel_rfl
  have hs : ∀ W, (sizeOf 5).run Tryd.prog W = .ok 1 W := fun _ => by kernel_rfl
  have ht : ((q : Int) - 1).toNat = q - 1 := by omega
  rw [run_sliceAt_array_l W 122 _ (by kernel_rfl) .i64 _ (by omega) (by rw [ha]; omega), ha, he, hs, ht]
  simp [Result.andThen, slicedAt, add_plain]
  exact ⟨fun h => by omega, by omega⟩
set_option maxRecDepth 4000 in
theorem Tail.vl {cs : Array Value} {q : Nat} {dl : List UInt8} (h : Tail cs q dl) (w : World) (t : TypeId) : VL (w.alloc (.cells cs t)) (w.heap.size + 1) (some ⟨w.heap.size, q, none⟩) (bv dl) := fun _ =>
  ⟨w.heap.size, q, rfl, by omega, fun k u hk => by
    have hkl : k < dl.length := by have := (List.getElem?_eq_some_iff.1 hk).1; rwa [bv_len] at this
    rw [World.cell?_alloc_new, h.2.2 k hkl]
    exact hk⟩
set_option maxRecDepth 4000 in
theorem Grew.of_alloc {b : Nat} {v : Value} {w w' : World} {o : Obj} (h : Grew b v (w.alloc o) w') : Grew b v w w' :=
  ⟨by have := h.size; simp at this; omega, fun B w0 hB hBW h0 => h.below B w0 hB (by simp; omega) (h0.alloc hBW _), fun p hp hne => by
    rw [h.cell p (by simp; omega) hne]
    exact World.cell?_alloc_lt _ _ p hp⟩
/-- A row of bytes with more behind it. -/
def Put (b : Nat) (v : Value) (l : List UInt8) (w : World) (e : Ending) (w' : World) : Prop := ∃ v', e = .returned v' ∧ OwnV 5 w' b v' (bv l) ∧ Grew b v w w'
def Put2 (b : Nat) (v : Value) (l : List UInt8) (w : World) (e : Ending) (w' : World) : Prop := ∃ v', e = .returned (.tuple #[v', .string ⟨#[]⟩]) ∧ OwnV 5 w' b v' (bv l) ∧ Grew b v w w'

set_option maxRecDepth 100000 in
set_option maxHeartbeats 4000000 in
theorem format_any (v : Value) (k : List UInt8) (n : Nat) (w : World) (hT : Hid (Tab w)) (b : Nat) (hO : Hid (OwnV 5 w b v (bv k))) (hk : k.length ≤ 20000) (hn : n ≤ 1114111) (hb : b ≤ w.heap.size) :
    Calls Tryd.prog 100 #[v, .int .u64 n, .int .i64 16, .bool false, .bool true] w (Put2 b v (k ++ hexL n) w) := by
  obtain ⟨Z, hZ, hz⟩ := zero65
  have HZ := hd hZ
  clear hZ
  go_enter Tryd.func100, Tryd.ntmps100
  go_wp2_with fail
  refine (isPow_any _).mono ?_
  rintro e w' ⟨rfl, rfl⟩
  go_wp2_with fail
  refine (tz_any _ (hd (hT.out.below ((Below.refl _ _).alloc (Nat.le_refl _) _)))).mono ?_
  rintro e w' ⟨rfl, rfl⟩
  go_wp2_with fail
  have H0 := hd (show hexL n = hexL n ++ [] by simp)
  have H6 := hd (hexL_six n hn)
  go_loopw [1, 13] (fun u i wr => ∃ (U q : Nat) (cs : Array Value) (dl : List UInt8), u = .int .u64 U ∧ i = .int .i64 q ∧ wr = w.alloc (.cells cs 122) ∧ Hid (hexL n = hexL U ++ dl) ∧ Hid (Tail cs q dl) ∧ U ≤ n ∧ 60 ≤ q ∧ q ≤ 65) (fun u _ _ => (intOf u).toNat)
  case atStart => exact ⟨n, 65, Z, [], rfl, rfl, rfl, H0, hd (Tail.start Z HZ.out), Nat.le_refl _, by omega, by omega⟩
  case round =>
    obtain ⟨U, q, cs, dl, rfl, rfl, rfl, HX, HT, hU, hq1, hq2⟩ := hrel
    obtain ⟨x, hx⟩ : ∃ x, cs[q - 1]? = some x := ⟨_, Array.getElem?_eq_getElem (by have := HT.out.2.1; omega)⟩
    by_cases hge : 16 ≤ U
    · have hb1 := and15 U (by omega)
      have HM := hd (HT.out.more (by omega) (dg (U % 16)))
      have HX2 := hd (show hexL n = hexL (U / 16) ++ dg (U % 16) :: dl by rw [HX.out, hexL_ge U hge]; simp)
      have hq3 : 61 ≤ q := by
        have h1 := H6.out
        have h2 := HT.out.1
        rw [HX2.out] at h1
        have h3 := List.length_pos_iff.2 (hexL_ne (U / 16))
        simp at h1; omega
      go_wp2_with fail
      go_roundw
      case rel => exact ⟨U / 16, q - 1, _, dg (U % 16) :: dl, by simp, int_eq (by omega), rfl, HX2, by rw [lit_dg _ rfl _ (by omega)]; exact HM, by omega, by omega, by omega⟩
      case measure => simp [intOf]; omega
    · have HM := hd (HT.out.more (by omega) (dg U))
      have HX2 := hd (show hexL n = dg U :: dl by rw [HX.out, hexL_lt U (by omega)]; simp)
      have hsl := slice65 w.heap.size q (by omega) (by omega)
      have HL := hd (show (bv (dg U :: dl)).length = 66 - q by rw [bv_len]; have := HM.out.1; simp at this ⊢; omega)
      have hlk : (bv k).length ≤ 20000 := by rw [bv_len]; exact hk
      go_wp2_with (at_builtin; refine wpList_append_V byteElem (by decide) _ rfl (.tmp 95) (.tmp 97) rfl b v (bv k) (bv (dg U :: dl)) rfl (hO.out.below ((Below.refl _ _).alloc (Nat.le_refl _) _)) (some ⟨w.heap.size, q - 1, none⟩) (66 - q) (66 - q) (w.heap.size + 1) rfl HL.out (Tail.vl (by rw [lit_dg _ rfl _ (by omega)]; exact HM.out) w _) (bv_one _) (by have := HL.out; omega) (by simp; omega) ?_; intro v' w1 ho1 hg1)
      go_ret2
      exact ⟨v', rfl, by rw [HX2.out, bv_append]; exact ho1, hg1.of_alloc⟩

set_option maxRecDepth 4000 in
theorem appendUint_any (v : Value) (k : List UInt8) (n : Nat) (w : World) (hT : Hid (Tab w)) (b : Nat) (hO : Hid (OwnV 5 w b v (bv k))) (hk : k.length ≤ 20000) (hn : n ≤ 1114111) (hb : b ≤ w.heap.size) :
    Calls Tryd.prog 93 #[v, .int .u64 n, .int .i64 16] w (Put b v (k ++ hexL n) w) := by
  have HC := hd (format_any v k n w hT b hO hk hn hb)
  go_enter Tryd.func93, Tryd.ntmps93
  go_wp2_with fail
  refine HC.out.mono ?_
  rintro e w1 ⟨v1, rfl, ho, hg⟩
  go_wp2
  go_ret
  exact ⟨v1, rfl, ho, hg⟩
set_option maxRecDepth 4000 in
theorem appendInt0_any (v : Value) (k : List UInt8) (n : Nat) (w : World) (hT : Hid (Tab w)) (b : Nat) (hO : Hid (OwnV 5 w b v (bv k))) (hk : k.length ≤ 20000) (hn : n ≤ 1114111) (hb : b ≤ w.heap.size) :
    Calls Tryd.prog 83 #[v, .int .i64 n, .int .i64 16] w (Put b v (k ++ hexL n) w) := by
  have HC := hd (appendUint_any v k n w hT b hO hk hn hb)
  go_enter Tryd.func83, Tryd.ntmps83
  go_wp2_with fail
  refine HC.out.mono ?_
  rintro e w1 ⟨v1, rfl, ho, hg⟩
  go_wp2
  go_ret
  exact ⟨v1, rfl, ho, hg⟩
set_option maxRecDepth 4000 in
theorem appendInt_any (v : Value) (k : List UInt8) (n : Nat) (w : World) (hT : Hid (Tab w)) (b : Nat) (hO : Hid (OwnV 5 w b v (bv k))) (hk : k.length ≤ 20000) (hn : n ≤ 1114111) (hb : b ≤ w.heap.size) :
    Calls Tryd.prog 68 #[v, .int .i64 n, .int .i64 16] w (Put b v (k ++ hexL n) w) := by
  have HC := hd (appendInt0_any v k n w hT b hO hk hn hb)
  go_enter Tryd.func68, Tryd.ntmps68
  go_wp2_with fail
  refine HC.out.mono ?_
  rintro e w1 ⟨v1, rfl, ho, hg⟩
  go_wp2
  go_ret
  exact ⟨v1, rfl, ho, hg⟩

end Go.Proofs.YtknkclbjocfhiaaDoor
