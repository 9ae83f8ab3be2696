/- Get answers the first property whose key is asked for; old memory stays as it was. -/
import Derived.Test.YtkbggbkcchndeaaPChars
import Derived.Test.YtkbggbkcchndeaaPMem
namespace Go.Proofs.Ytkbggbkcchndeaa
open Go.RowKit

theorem ret_get {a b : ByteArray} {p q : Bool} (h : a = b) (hp : p = q) : Ending.returned (.tuple #[.string a, .bool p]) = .returned (.tuple #[.string b, .bool q]) := by rw [h, hp]

theorem getF_hit (l : List Pr) (k : ByteArray) (n : Nat) (hn : n < l.length) (h0 : ∀ j, j < n → ((prAt l j).1.toList == k.toList) = false) (h : ((prAt l n).1.toList == k.toList) = true) : getF l k = some (prAt l n) := by
  unfold getF
  have e : l = (List.range l.length).map (prAt l) := by
    apply List.ext_getElem?
    intro i
    by_cases hi : i < l.length
    · simp [hi, prAt_eq l i hi]
    · simp [hi]
  have := find_first (prAt l) (fun p => p.1.toList == k.toList) l.length n hn h0 h
  rwa [← e] at this

theorem getF_miss (l : List Pr) (k : ByteArray) (h0 : ∀ j, j < l.length → ((prAt l j).1.toList == k.toList) = false) : getF l k = none := by
  unfold getF
  rw [List.find?_eq_none]
  intro p hp
  obtain ⟨j, hj, rfl⟩ := List.mem_iff_getElem.1 hp
  have := h0 j hj
  rw [prAt_eq l j hj] at this
  simpa using this

set_option maxHeartbeats 1000000 in
theorem pget_any (A : Option Addr) (l : List Pr) (c : Nat) (k : ByteArray) (w : World) (hl : l.length ≤ 9223372036854775807) (hp : PL w w.heap.size A l) :
    Calls Try.prog 27 #[.slice A l.length c, .string k] w fun e w' => e = .returned (.tuple #[.string (getV l k), .bool (getB l k)]) ∧ Below w.heap.size w w' := by
  go_enter Try.func27, Try.ntmps27
  go_wp2
  go_loopw [10] (fun i wr => ∃ n : Nat, n ≤ l.length ∧ i = .int .i64 n ∧ Below w.heap.size w wr ∧ Hid (∀ j, j < n → ((prAt l j).1.toList == k.toList) = false)) (fun i _ => l.length - (intOf i).toNat)
  case atStart => exact ⟨0, Nat.zero_le _, rfl, Below.refl _ _, fun j hj => absurd hj (Nat.not_lt_zero _)⟩
  case round =>
    obtain ⟨n, hn, rfl, hb, HA⟩ := hrel
    by_cases hlt : n < l.length
    · obtain ⟨b, o, rfl, hlb, c1, c2⟩ := (hp.below hb).at_ hlt
      clear hp
      cases ht : ((prAt l n).1.toList == k.toList)
      · have HB := one_more (p := fun j => ((prAt l j).1.toList == k.toList) = false) HA ht
        clear HA
        go_wp2
        go_roundw
        case rel => exact ⟨n + 1, by omega, by go_num, hb.alloc hb.size _, HB⟩
        case measure => simp [intOf]; omega
      · have HF := hd (getF_hit l k n hlt HA.out ht)
        clear HA
        go_wp2
        go_ret2
        exact ⟨ret_get (by unfold getV; rw [HF.out]; rfl) (by unfold getB; rw [HF.out]; rfl), hb.alloc hb.size _⟩
    · have HF := hd (getF_miss l k (fun j hj => HA.out j (by omega)))
      clear HA
      go_wp2
      go_ret2
      exact ⟨ret_get (by unfold getV; rw [HF.out]; rfl) (by unfold getB; rw [HF.out]; rfl), hb⟩

set_option maxHeartbeats 1000000 in
theorem prget_any (A : Option Addr) (l : List Pr) (c : Nat) (k : ByteArray) (w : World) (hl : l.length ≤ 9223372036854775807) (hp : PL w w.heap.size A l) :
    Calls Try.prog 39 #[.slice A l.length c, .string k] w fun e w' => e = .returned (.tuple #[.string (getV l k), .bool (getB l k)]) ∧ Below w.heap.size w w' := by
  go_enter Try.func39, Try.ntmps39
  go_wp2
  go_loopw [10] (fun i wr => ∃ n : Nat, n ≤ l.length ∧ i = .int .i64 n ∧ Below w.heap.size w wr ∧ Hid (∀ j, j < n → ((prAt l j).1.toList == k.toList) = false)) (fun i _ => l.length - (intOf i).toNat)
  case atStart => exact ⟨0, Nat.zero_le _, rfl, Below.refl _ _, fun j hj => absurd hj (Nat.not_lt_zero _)⟩
  case round =>
    obtain ⟨n, hn, rfl, hb, HA⟩ := hrel
    by_cases hlt : n < l.length
    · obtain ⟨b, o, rfl, hlb, c1, c2⟩ := (hp.below hb).at_ hlt
      clear hp
      cases ht : ((prAt l n).1.toList == k.toList)
      · have HB := one_more (p := fun j => ((prAt l j).1.toList == k.toList) = false) HA ht
        clear HA
        go_wp2
        go_roundw
        case rel => exact ⟨n + 1, by omega, by go_num, hb.alloc hb.size _, HB⟩
        case measure => simp [intOf]; omega
      · have HF := hd (getF_hit l k n hlt HA.out ht)
        clear HA
        go_wp2
        go_ret2
        exact ⟨ret_get (by unfold getV; rw [HF.out]; rfl) (by unfold getB; rw [HF.out]; rfl), hb.alloc hb.size _⟩
    · have HF := hd (getF_miss l k (fun j hj => HA.out j (by omega)))
      clear HA
      go_wp2
      go_ret2
      exact ⟨ret_get (by unfold getV; rw [HF.out]; rfl) (by unfold getB; rw [HF.out]; rfl), hb⟩

end Go.Proofs.Ytkbggbkcchndeaa
