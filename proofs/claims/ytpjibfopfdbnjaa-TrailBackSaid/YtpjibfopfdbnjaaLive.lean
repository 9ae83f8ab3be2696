/- live, the chapter's example, and short answer. -/
import Derived.Test.YtpjibfopfdbnjaaLeft
namespace Go.Proofs.Ytpjibfopfdbnjaa
open Go.RowKit
open Go.WideShapes (add_plain)

theorem IL_new (w : World) (t : TypeId) (l : List Int) : IL (w.alloc (.cells (l.map (Value.int .i64)).toArray t)) (w.heap.size + 1) (some ⟨w.heap.size, 0, none⟩) l := fun _ =>
  ⟨w.heap.size, 0, rfl, by omega, fun k hk => by
    rw [World.cell?_alloc_new]
    simp [iAt_eq l k hk, hk]⟩
theorem left_is (A B : Option Addr) (l m : List Int) (a b c d : Nat) (r : Bool) (hr : leftL l m = r) (w : World) (ha : l.length = a) (hb : m.length = b) (hl : l.length ≤ 9223372036854775807) (hm : m.length ≤ 9223372036854775807) (hp : IL w w.heap.size A l) (hq : IL w w.heap.size B m) :
    Calls Try.prog 18 #[.slice A a c, .slice B b d] w (Quiet (.bool r) w) := by
  subst ha hb hr
  exact left_any A B l m c d w hl hm hp hq
theorem above_is (A B : Option Addr) (l m : List Int) (a b c d : Nat) (r : Bool) (hr : aboveL l m = r) (w : World) (ha : l.length = a) (hb : m.length = b) (hl : l.length ≤ 9223372036854775807) (hm : m.length ≤ 9223372036854775807) (hp : IL w w.heap.size A l) (hq : IL w w.heap.size B m) :
    Calls Try.prog 16 #[.slice A a c, .slice B b d] w (Quiet (.bool r) w) := by
  subst ha hb hr
  exact above_any A B l m c d w hl hm hp hq

theorem left_new (W : World) (t : TypeId) (l m : List Int) (r : Bool) (hr : leftL l m = r) (a b n : Nat) (cl cm : Array Value) (hcl : (l.map (Value.int .i64)).toArray = cl) (hcm : (m.map (Value.int .i64)).toArray = cm) (ha : l.length = a) (hb : m.length = b) (hn : n = W.heap.size) (hl : l.length ≤ 100) (hm : m.length ≤ 100) :
    Calls Try.prog 18 #[.slice (some ⟨n, 0, none⟩) a a, .slice (some ⟨n + 1, 0, none⟩) b b] ((W.alloc (.cells cl t)).alloc (.cells cm t)) fun e w' => e = .returned (.bool r) ∧ Below W.heap.size W w' := by
  subst hcl hcm hn
  have h0 : (W.alloc (.cells (l.map (Value.int .i64)).toArray t)).heap.size = W.heap.size + 1 := by simp
  have hB : Below (W.heap.size + 1) (W.alloc (.cells (l.map (Value.int .i64)).toArray t)) ((W.alloc (.cells (l.map (Value.int .i64)).toArray t)).alloc (.cells (m.map (Value.int .i64)).toArray t)) := (Below.refl _ _).alloc (by omega) _
  refine (left_is _ _ l m a b a b r hr _ ha hb (by omega) (by omega) (((IL_new W t l).below hB).more (by simp)) ?_).mono ?_
  · have h := IL_new (W.alloc (.cells (l.map (Value.int .i64)).toArray t)) t m
    rw [h0] at h
    exact h.more (by simp)
  · rintro e w' ⟨rfl, k, rfl⟩
    exact ⟨rfl, below_drewN (((Below.refl _ _).alloc (Nat.le_refl _) _).alloc (by simp) _) _⟩
theorem above_new (W : World) (t : TypeId) (l m : List Int) (r : Bool) (hr : aboveL l m = r) (a b n : Nat) (cl cm : Array Value) (hcl : (l.map (Value.int .i64)).toArray = cl) (hcm : (m.map (Value.int .i64)).toArray = cm) (ha : l.length = a) (hb : m.length = b) (hn : n = W.heap.size) (hl : l.length ≤ 100) (hm : m.length ≤ 100) :
    Calls Try.prog 16 #[.slice (some ⟨n, 0, none⟩) a a, .slice (some ⟨n + 1, 0, none⟩) b b] ((W.alloc (.cells cl t)).alloc (.cells cm t)) fun e w' => e = .returned (.bool r) ∧ Below W.heap.size W w' := by
  subst hcl hcm hn
  have h0 : (W.alloc (.cells (l.map (Value.int .i64)).toArray t)).heap.size = W.heap.size + 1 := by simp
  have hB : Below (W.heap.size + 1) (W.alloc (.cells (l.map (Value.int .i64)).toArray t)) ((W.alloc (.cells (l.map (Value.int .i64)).toArray t)).alloc (.cells (m.map (Value.int .i64)).toArray t)) := (Below.refl _ _).alloc (by omega) _
  refine (above_is _ _ l m a b a b r hr _ ha hb (by omega) (by omega) (((IL_new W t l).below hB).more (by simp)) ?_).mono ?_
  · have h := IL_new (W.alloc (.cells (l.map (Value.int .i64)).toArray t)) t m
    rw [h0] at h
    exact h.more (by simp)
  · rintro e w' ⟨rfl, k, rfl⟩
    exact ⟨rfl, below_drewN (((Below.refl _ _).alloc (Nat.le_refl _) _).alloc (by simp) _) _⟩

set_option maxHeartbeats 2000000 in
theorem live_any (w : World) : Calls Try.prog 8 #[] w fun e w' => e = .returned (.bool true) ∧ Below w.heap.size w w' := by
  go_enter Try.func8, Try.ntmps8
  go_wp2_with fail
  refine (left_new w 3 [0, 2] [0, 3, 1] true (by decide) 2 3 _ _ _ rfl rfl rfl rfl rfl (by decide) (by decide)).mono ?_
  rintro e w1 ⟨rfl, hb1⟩
  go_wp2_with fail
  refine (above_new w1 3 [0] [0, 2] true (by decide) 1 2 _ _ _ rfl rfl rfl rfl rfl (by decide) (by decide)).mono ?_
  rintro e w2 ⟨rfl, hb2⟩
  have hb2 := hb1.trans (hb2.mono hb1.size)
  go_wp2_with fail
  refine (above_new w2 3 [0] [0, 3, 1] true (by decide) 1 3 _ _ _ rfl rfl rfl rfl rfl (by decide) (by decide)).mono ?_
  rintro e w3 ⟨rfl, hb3⟩
  have hb3 := hb2.trans (hb3.mono hb2.size)
  go_wp2_with fail
  refine (left_new w3 3 [0, 3, 1] [0, 2] false (by decide) 3 2 _ _ _ rfl rfl rfl rfl rfl (by decide) (by decide)).mono ?_
  rintro e w4 ⟨rfl, hb4⟩
  have hb4 := hb3.trans (hb4.mono hb3.size)
  go_wp2_with fail
  go_ret
  exact ⟨rfl, hb4⟩

/-- A slice of slices: the outer cells, and what each inner slice holds. -/
def LL (w : World) (b o n : Nat) (As : Nat → Option Addr) (L : Nat → List Int) (cs : Nat → Nat) : Prop :=
  b < w.heap.size ∧ ∀ k, k < n → w.cell? ⟨b, o + k, none⟩ = some (.slice (As k) (L k).length (cs k))
def shortB (n : Nat) (L : Nat → List Int) : Bool := (List.range n).all fun k => decide ((L k).length ≤ 100)
theorem shortB_iff (n : Nat) (L : Nat → List Int) : shortB n L = true ↔ ∀ k, k < n → (L k).length ≤ 100 := by
  unfold shortB
  simp only [List.all_eq_true, List.mem_range, decide_eq_true_iff]
theorem shortB_not {n : Nat} {L : Nat → List Int} {k : Nat} (hk : k < n) (h : ¬ (L k).length ≤ 100) : shortB n L = false := by
  cases hh : shortB n L
  · rfl
  · exact absurd ((shortB_iff n L).1 hh k hk) h

set_option maxHeartbeats 4000000 in
theorem short_any (b o n c : Nat) (As : Nat → Option Addr) (L : Nat → List Int) (cs : Nat → Nat) (w : World) (hn : n ≤ 9223372036854775807) (hW : ∀ k, k < n → (L k).length ≤ 9223372036854775807) (h : LL w b o n As L cs) :
    Calls Try.prog 9 #[.slice (some ⟨b, o, none⟩) n c] w (Quiet (.bool (shortB n L)) w) := by
  obtain ⟨hbw, hLL⟩ := h
  have HLL := hd hLL
  have HW := hd hW
  clear hLL hW
  go_enter Try.func9, Try.ntmps9
  go_wp2
  go_loopw [7] (fun i wr => ∃ k : Nat, k ≤ n ∧ i = .int .i64 k ∧ (∃ q, wr = w.drewN q) ∧ Hid (∀ j, j < k → (L j).length ≤ 100)) (fun i _ => n - (intOf i).toNat)
  case atStart => exact ⟨0, Nat.zero_le _, rfl, ⟨0, rfl⟩, fun j hj => absurd hj (Nat.not_lt_zero _)⟩
  case round =>
    obtain ⟨k, hk, rfl, ⟨kd, rfl⟩, HA⟩ := hrel
    by_cases hlt : k < n
    · have hc := HLL.out k hlt
      have hw0 := HW.out k hlt
      by_cases h1 : (L k).length ≤ 100
      · have HB := one_more (p := fun j => (L j).length ≤ 100) HA h1
        clear HA
        go_wp2
        go_roundw
        case rel => exact ⟨k + 1, by omega, by go_num, (by first | exact ⟨_, rfl⟩ | exact ⟨_, World.drewN_drewN _ _ _⟩ | exact ⟨_, (World.drewN_drewN _ _ _).trans (World.drewN_drewN _ _ _)⟩), HB⟩
        case measure => simp [intOf]; omega
      · have HF := hd (shortB_not hlt h1)
        have h2 : (100 : Int) < ((L k).length : Int) := by omega
        clear HA h1
        go_wp2
        go_ret
        exact ret_quiet (bool_eq (by rw [HF.out])) (by first | exact ⟨_, rfl⟩ | exact ⟨_, World.drewN_drewN _ _ _⟩ | exact ⟨_, (World.drewN_drewN _ _ _).trans (World.drewN_drewN _ _ _)⟩)
    · have HF := hd ((shortB_iff n L).2 (fun j hj => HA.out j (by omega)))
      clear HA
      go_wp2
      go_ret
      exact ret_quiet (bool_eq (by rw [HF.out])) (by first | exact ⟨_, rfl⟩ | exact ⟨_, World.drewN_drewN _ _ _⟩ | exact ⟨_, (World.drewN_drewN _ _ _).trans (World.drewN_drewN _ _ _)⟩)

end Go.Proofs.Ytpjibfopfdbnjaa
