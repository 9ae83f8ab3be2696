/- short answers whether all lists handed to it are short and of short texts; checkAll tells the first that is wrong. -/
import Derived.Test.YtggbafkeogccjaaCheck
namespace Go.Proofs.Ytggbafkeogccjaa
open Go.RowKit

theorem fit_of (l : List Pr) (h : l.length ≤ 60) (h0 : ∀ j, j < l.length → (prAt l j).1.size ≤ 100 ∧ (prAt l j).2.size ≤ 100) : Fit l :=
  ⟨h, fun p hp => by
    obtain ⟨j, hj, rfl⟩ := List.mem_iff_getElem.1 hp
    have := h0 j hj
    rwa [prAt_eq l j hj] at this⟩
/-- The texts of a list are no longer than a length can be. -/
def Wide (l : List Pr) : Prop := l.length ≤ 9223372036854775807 ∧ ∀ p ∈ l, p.1.size ≤ 9223372036854775807 ∧ p.2.size ≤ 9223372036854775807
theorem Wide.at_ {l : List Pr} (h : Wide l) {k : Nat} (hk : k < l.length) : (prAt l k).1.size ≤ 9223372036854775807 ∧ (prAt l k).2.size ≤ 9223372036854775807 := by
  rw [prAt_eq l k hk]; exact h.2 _ (List.getElem_mem hk)

/-- A slice of slices: the outer cells, and what each inner slice holds. -/
def LL (w : World) (b o n : Nat) (As : Nat → Option Addr) (L : Nat → List Pr) (cs : Nat → Nat) : Prop :=
  b < w.heap.size ∧ ∀ k, k < n → w.cell? ⟨b, o + k, none⟩ = some (.slice (As k) (L k).length (cs k)) ∧ PL w w.heap.size (As k) (L k)

def fitB (l : List Pr) : Bool := decide (l.length ≤ 60) && l.all fun p => decide (p.1.size ≤ 100) && decide (p.2.size ≤ 100)
def shortB (n : Nat) (L : Nat → List Pr) : Bool := (List.range n).all fun k => fitB (L k)
theorem fitB_iff (l : List Pr) : fitB l = true ↔ Fit l := by
  unfold fitB Fit
  simp only [Bool.and_eq_true, decide_eq_true_iff, List.all_eq_true]
theorem shortB_iff (n : Nat) (L : Nat → List Pr) : shortB n L = true ↔ ∀ k, k < n → Fit (L k) := by
  unfold shortB
  simp only [List.all_eq_true, List.mem_range, fitB_iff]
theorem shortB_not {n : Nat} {L : Nat → List Pr} {k : Nat} (hk : k < n) (h : ¬ Fit (L k)) : shortB n L = false := by
  cases hh : shortB n L
  · rfl
  · exact absurd ((shortB_iff n L).1 hh k hk) h
theorem not_fit {l : List Pr} {j : Nat} (hj : j < l.length) (h : ¬ ((prAt l j).1.size ≤ 100 ∧ (prAt l j).2.size ≤ 100)) : ¬ Fit l := fun hF => h (hF.at_ hj)

set_option maxHeartbeats 4000000 in
theorem short_any (b o n c : Nat) (As : Nat → Option Addr) (L : Nat → List Pr) (cs : Nat → Nat) (w : World) (hn : n ≤ 9223372036854775807) (hW : ∀ k, k < n → Wide (L k)) (h : LL w b o n As L cs) :
    Calls Try.prog 10 #[.slice (some ⟨b, o, none⟩) n c] w fun e w' => e = .returned (.bool (shortB n L)) ∧ Below w.heap.size w w' := by
  obtain ⟨hbw, hLL⟩ := h
  have HLL := hd hLL
  have HW := hd hW
  clear hLL hW
  go_enter Try.func10, Try.ntmps10
  go_wp2
  go_loopw [9] (fun i wr => ∃ k : Nat, k ≤ n ∧ i = .int .i64 k ∧ Below w.heap.size w wr ∧ Hid (∀ j, j < k → Fit (L j))) (fun i _ => n - (intOf i).toNat)
  case atStart => exact ⟨0, Nat.zero_le _, rfl, Below.refl _ _, fun j hj => absurd hj (Nat.not_lt_zero _)⟩
  case round =>
    obtain ⟨k, hk, rfl, hb, HA⟩ := hrel
    by_cases hlt : k < n
    · obtain ⟨hc0, hp0⟩ := HLL.out k hlt
      have hw0 := HW.out k hlt
      have hc := (hb.cell (p := ⟨b, o + k, none⟩) hbw).trans hc0
      have hp := hp0
      clear hc0 hp0
      obtain ⟨l, hl⟩ : ∃ l, l = L k := ⟨_, rfl⟩
      obtain ⟨A, hA⟩ : ∃ A, A = As k := ⟨_, rfl⟩
      obtain ⟨cc, hcc⟩ : ∃ cc, cc = cs k := ⟨_, rfl⟩
      rw [← hl, ← hA, ← hcc] at hc
      rw [← hl, ← hA] at hp
      rw [← hl] at hw0
      have HL := hd hl
      have HP := hd hp
      clear hl hA hcc hp
      have hl63 := hw0.1
      by_cases h60 : (60 : Int) < (l.length : Int)
      · have HF := hd (shortB_not (L := L) hlt (by rw [← HL.out]; exact fun hF => by have := hF.1; omega))
        clear hw0
        go_wp2
        go_ret
        exact ⟨ret_bool HF.out.symm, hb⟩
      · go_wp2
        obtain ⟨wo, hwo⟩ : ∃ wo : World, wo = wr := ⟨_, rfl⟩
        subst hwo
        go_loopw [18] (fun i wr => ∃ m : Nat, m ≤ l.length ∧ i = .int .i64 m ∧ Below w.heap.size w wr ∧ Hid (∀ j, j < m → (prAt l j).1.size ≤ 100 ∧ (prAt l j).2.size ≤ 100)) (fun i _ => l.length - (intOf i).toNat)
        case atStart => exact ⟨0, Nat.zero_le _, rfl, hb, fun j hj => absurd hj (Nat.not_lt_zero _)⟩
        case round =>
          obtain ⟨m, hm, rfl, hb2, HM⟩ := hrel
          by_cases hlm : m < l.length
          · obtain ⟨g, q, rfl, hlg, c1, c2⟩ := (HP.out.below hb2).at_ hlm
            obtain ⟨z1, z2⟩ := hw0.at_ hlm
            by_cases t1 : (100 : Int) < ((prAt l m).1.size : Int)
            · have HF := hd (shortB_not (L := L) hlt (by rw [← HL.out]; exact not_fit hlm (by omega)))
              go_wp2
              go_ret
              exact ⟨ret_bool HF.out.symm, hb2.alloc hb2.size _⟩
            · have t1' : decide ((100 : Int) < ((prAt l m).1.size : Int)) = false := dec_no t1
              by_cases t2 : (100 : Int) < ((prAt l m).2.size : Int)
              · have HF := hd (shortB_not (L := L) hlt (by rw [← HL.out]; exact not_fit hlm (by omega)))
                go_wp2
                go_ret
                exact ⟨ret_bool HF.out.symm, hb2.alloc hb2.size _⟩
              · have HB := one_more (p := fun j => (prAt l j).1.size ≤ 100 ∧ (prAt l j).2.size ≤ 100) HM (by omega)
                clear HM
                go_wp2
                go_roundw
                case rel => exact ⟨m + 1, by omega, by go_num, hb2.alloc hb2.size _, HB⟩
                case measure => simp [intOf]; omega
          · have HF := hd (fit_of l (by omega) (fun j hj => HM.out j (by omega)))
            have HB := one_more (p := fun j => Fit (L j)) HA (by rw [← HL.out]; exact HF.out)
            clear HA HM
            go_wp2
            go_roundw
            case rel => exact ⟨k + 1, by omega, by go_num, hb2, HB⟩
            case measure => simp [intOf]; omega
    · have HF := hd ((shortB_iff n L).2 (fun j hj => HA.out j (by omega)))
      clear HA
      go_wp2
      go_ret
      exact ⟨ret_bool HF.out.symm, hb⟩

def chkAll (n : Nat) (L : Nat → List Pr) : Int := (((List.range n).map fun k => chk (L k)).find? (· != 0)).getD 0
theorem chkAll_none (n : Nat) (L : Nat → List Pr) (h : ∀ j, j < n → chk (L j) = 0) : chkAll n L = 0 := by
  unfold chkAll
  rw [List.find?_eq_none.2]
  · rfl
  · intro x hx
    obtain ⟨j, hj, rfl⟩ := List.mem_map.1 hx
    simp [h j (List.mem_range.1 hj)]
theorem chkAll_at (n : Nat) (L : Nat → List Pr) (k : Nat) (hk : k < n) (h0 : ∀ j, j < k → chk (L j) = 0) (h : chk (L k) ≠ 0) : chkAll n L = chk (L k) := by
  unfold chkAll
  rw [find_first (fun k => chk (L k)) (· != 0) n k hk (fun j hj => by simp [h0 j hj]) (by simpa using h)]
  rfl

set_option maxHeartbeats 2000000 in
theorem checkAll_any (b o n c : Nat) (As : Nat → Option Addr) (L : Nat → List Pr) (cs : Nat → Nat) (w : World) (hn : n ≤ 9223372036854775807) (hW : ∀ k, k < n → Fit (L k)) (h : LL w b o n As L cs) :
    Calls Try.prog 26 #[.slice (some ⟨b, o, none⟩) n c] w fun e w' => e = .returned (.int .i64 (chkAll n L)) ∧ Below w.heap.size w w' := by
  obtain ⟨hbw, hLL⟩ := h
  have HLL := hd hLL
  have HW := hd hW
  clear hLL hW
  go_enter Try.func26, Try.ntmps26
  go_wp2
  go_loopw [8] (fun i wr => ∃ k : Nat, k ≤ n ∧ i = .int .i64 k ∧ Below w.heap.size w wr ∧ Hid (∀ j, j < k → chk (L j) = 0)) (fun i _ => n - (intOf i).toNat)
  case atStart => exact ⟨0, Nat.zero_le _, rfl, Below.refl _ _, fun j hj => absurd hj (Nat.not_lt_zero _)⟩
  case round =>
    obtain ⟨k, hk, rfl, hb, HA⟩ := hrel
    by_cases hlt : k < n
    · obtain ⟨hc0, hp0⟩ := HLL.out k hlt
      have hw0 := HW.out k hlt
      have hc := (hb.cell (p := ⟨b, o + k, none⟩) hbw).trans hc0
      have hC := hd (check_any (As k) (L k) (cs k) wr hw0 ((hp0.below hb).more hb.size))
      clear hc0 hp0 hw0
      cases hr : (chk (L k) != 0)
      · have HB := one_more (p := fun j => chk (L j) = 0) HA (by simpa using hr)
        clear HA
        go_wp2_with (go_at_call 13; refine hC.out.mono ?_; rintro e w' ⟨rfl, hb3⟩)
        have hb4 := hb.trans (hb3.mono hb.size)
        go_wp2
        go_roundw
        case rel => exact ⟨k + 1, by omega, by go_num, hb4, HB⟩
        case measure => simp [intOf]; omega
      · have HF := hd (chkAll_at n L k hlt HA.out (by simpa using hr))
        go_wp2_with (go_at_call 13; refine hC.out.mono ?_; rintro e w' ⟨rfl, hb3⟩)
        go_ret
        exact ⟨ret_int HF.out.symm, hb.trans (hb3.mono hb.size)⟩
    · have HF := hd (chkAll_none n L (fun j hj => HA.out j (by omega)))
      clear HA
      go_wp2
      go_ret
      exact ⟨ret_int HF.out.symm, hb⟩

end Go.Proofs.Ytggbafkeogccjaa
