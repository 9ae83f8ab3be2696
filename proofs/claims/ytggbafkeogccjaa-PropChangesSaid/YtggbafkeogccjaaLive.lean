/- live, the chapter's example, answers true. -/
import Derived.Test.YtggbafkeogccjaaDiff
namespace Go.Proofs.Ytggbafkeogccjaa
open Go.RowKit

theorem PL_new4 (w : World) (a b c d : ByteArray) : PL (w.alloc (.cells #[.string a, .string b, .string c, .string d] 36)) (w.heap.size + 1) (some ⟨w.heap.size, 0, none⟩) [(a, b), (c, d)] := fun _ =>
  ⟨w.heap.size, 0, rfl, by omega, fun k hk => by
    match k, hk with
    | 0, _ => exact ⟨by simp [prAt], by simp [prAt]⟩
    | 1, _ => exact ⟨by simp [prAt], by simp [prAt]⟩⟩

def exA : List Pr := [(⟨#[97]⟩, ⟨#[49]⟩), (⟨#[98]⟩, ⟨#[50]⟩)]
def exB : List Pr := [(⟨#[98]⟩, ⟨#[51]⟩), (⟨#[99]⟩, ⟨#[52]⟩)]
theorem exA_ok : chk exA = 0 := by decide +kernel
theorem exB_ok : chk exB = 0 := by decide +kernel
theorem exA_minus : minus exA exB = exA := by decide +kernel
theorem exB_minus : minus exB exA = exB := by decide +kernel
theorem exA_len : exA.length = 2 := rfl
theorem exB_len : exB.length = 2 := rfl

/-- The world in which the example's two lists are laid. -/
def exW (w : World) : World := (w.alloc (.cells #[.string ⟨#[97]⟩, .string ⟨#[49]⟩, .string ⟨#[98]⟩, .string ⟨#[50]⟩] 36)).alloc (.cells #[.string ⟨#[98]⟩, .string ⟨#[51]⟩, .string ⟨#[99]⟩, .string ⟨#[52]⟩] 36)
theorem exW_below (w : World) : Below w.heap.size w (exW w) := ((Below.refl _ _).alloc (Nat.le_refl _) _).alloc (by simp) _
theorem exW_A (w : World) : PL (exW w) (exW w).heap.size (some ⟨w.heap.size, 0, none⟩) exA := by
  have h := PL_new4 w ⟨#[97]⟩ ⟨#[49]⟩ ⟨#[98]⟩ ⟨#[50]⟩
  refine (h.keep fun p hp => ?_).more (by simp [exW])
  unfold exW
  exact World.cell?_alloc_lt _ _ p (by simpa using hp)
theorem exW_B (w : World) : PL (exW w) (exW w).heap.size (some ⟨w.heap.size + 1, 0, none⟩) exB := by
  have h := PL_new4 (w.alloc (.cells #[.string ⟨#[97]⟩, .string ⟨#[49]⟩, .string ⟨#[98]⟩, .string ⟨#[50]⟩] 36)) ⟨#[98]⟩ ⟨#[51]⟩ ⟨#[99]⟩ ⟨#[52]⟩
  have e : (w.alloc (.cells #[.string ⟨#[97]⟩, .string ⟨#[49]⟩, .string ⟨#[98]⟩, .string ⟨#[50]⟩] 36)).heap.size = w.heap.size + 1 := by simp
  rw [e] at h
  exact h.more (by simp [exW])
theorem ex_diff (w : World) : Calls Try.prog 19 #[.slice (some ⟨w.heap.size, 0, none⟩) 2 2, .slice (some ⟨w.heap.size + 1, 0, none⟩) 2 2] (exW w) (DiffOk (exW w) exA exB) :=
  diff_ok _ _ exA exB 2 2 (exW w) exA_ok exB_ok (exW_A w) (exW_B w)
theorem rsame_is (A B : Option Addr) (l m : List Pr) (c d a b : Nat) (r : Bool) (hr : decide (l = m) = r) (w : World) (ha : l.length = a) (hb : m.length = b) (hl : l.length ≤ 9223372036854775807) (hm : m.length ≤ 9223372036854775807) (hp : PL w w.heap.size A l) (hq : PL w w.heap.size B m) :
    Calls Try.prog 16 #[.slice A a c, .slice B b d] w fun e w' => e = .returned (.bool r) ∧ Below w.heap.size w w' := by
  subst hr ha hb
  exact rsame_any A B l m c d w hl hm hp hq

set_option maxHeartbeats 2000000 in
theorem live_any (w : World) : Calls Try.prog 9 #[] w fun e w' => e = .returned (.bool true) ∧ Below w.heap.size w w' := by
  have hC := hd (ex_diff w)
  have HW := hd (exW_below w)
  have HA := hd (exW_A w)
  have HB := hd (exW_B w)
  go_enter Try.func9, Try.ntmps9
  go_wp2_with fail
  change Calls Try.prog 19 _ (exW w) _
  generalize exW w = W at hC HW HA HB
  refine hC.out.mono ?_
  rintro e w1 ⟨v1, v2, rfl, hO1, hO2, hb1⟩
  obtain ⟨A1, c1, rfl, p1⟩ := hO1.PL
  obtain ⟨A2, c2, rfl, p2⟩ := hO2.PL
  rw [exA_minus] at p1
  rw [exB_minus] at p2
  have P1 := hd p1
  have P2 := hd p2
  clear p1 p2 hO1 hO2
  rw [exA_minus, exB_minus]
  go_wp2_with fail
  have hW1 : Below w.heap.size w w1 := HW.out.trans (hb1.mono HW.out.size)
  refine (rsame_is A1 (some ⟨w.heap.size, 0, none⟩) exA exA c1 2 exA.length 2 true (decide_eq_true rfl) w1 rfl rfl (by decide) (by decide) P1.out ((HA.out.below hb1).more hb1.size)).mono ?_
  rintro e w2 ⟨rfl, hb2⟩
  go_wp2_with fail
  refine (rsame_is A2 (some ⟨w.heap.size + 1, 0, none⟩) exB exB c2 2 exB.length 2 true (decide_eq_true rfl) w2 rfl rfl (by decide) (by decide) ((P2.out.below hb2).more hb2.size) (((HB.out.below hb1).more hb1.size).below hb2 |>.more hb2.size)).mono ?_
  rintro e w3 ⟨rfl, hb3⟩
  go_wp2_with fail
  go_ret
  exact ⟨rfl, (hW1.trans (hb2.mono hW1.size)).trans (hb3.mono (Nat.le_trans hW1.size hb2.size))⟩

end Go.Proofs.Ytggbafkeogccjaa
