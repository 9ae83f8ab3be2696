/- Points compared: cmp.Or, point.Compare, point.Same, and the document's. -/
import Derived.Test.YtdjajpookmmafaaKPts
import Derived.Test.YtdjajpookmmafaaIBase
import Derived.Test.YtdjajpookmmafaaIBase
import Derived.Deep.RegionHeld3
namespace Go.Proofs.Ytdjajpookmmafaa
open Go.RowKit

/-- The first number that is not 0. -/
def orL : List Int → Int
  | [] => 0
  | x :: r => if x = 0 then orL r else x
set_option maxRecDepth 4000 in
theorem orL_at : ∀ (l : List Int) (n : Nat), n < l.length → (∀ j, j < n → iAt l j = 0) → iAt l n ≠ 0 → orL l = iAt l n
  | [], n, h, _, _ => by simp at h
  | x :: r, 0, _, _, h => by
    have : x ≠ 0 := by simpa [iAt] using h
    rw [orL, if_neg this]; rfl
  | x :: r, n + 1, hn, h0, h => by
    have hx : x = 0 := by simpa [iAt] using h0 0 (by omega)
    rw [orL, if_pos hx]
    have := orL_at r n (by simpa using hn) (fun j hj => by simpa [iAt] using h0 (j + 1) (by omega)) (by simpa [iAt] using h)
    rw [this]; simp [iAt]
set_option maxRecDepth 4000 in
theorem orL_none : ∀ (l : List Int), (∀ j, j < l.length → iAt l j = 0) → orL l = 0
  | [], _ => rfl
  | x :: r, h0 => by
    have hx : x = 0 := by simpa [iAt] using h0 0 (by simp)
    rw [orL, if_pos hx]
    exact orL_none r fun j hj => by simpa [iAt] using h0 (j + 1) (by simpa using hj)
set_option maxRecDepth 4000 in
theorem orL_two (a b : List Int × Int) : orL [cmpL a.1 b.1, cmpI a.2 b.2] = cmpP a b := by
  unfold cmpP
  rw [orL, orL, orL]
  split
  · split
    · rename_i h; exact h.symm
    · rfl
  · rfl

set_option maxRecDepth 4000 in
theorem or_any (A : Option Addr) (l : List Int) (n c : Nat) (w : World) (hn : l.length = n) (hl : n ≤ 1000) (hp : IL w w.heap.size A l) :
    Calls Try.prog 71 #[.slice A n c] w fun e w' => e = .returned (.int .i64 (orL l)) ∧ w' = w := by
  have HP := hd hp
  have HN := hd hn
  clear hp hn
  go_enter Try.func71, Try.ntmps71
  go_wp2
  go_loopw [8] (fun i wr => ∃ k : Nat, k ≤ n ∧ i = .int .i64 k ∧ wr = w ∧ Hid (∀ j, j < k → iAt l j = 0)) (fun i _ => n - (intOf i).toNat)
  case atStart => exact ⟨0, Nat.zero_le _, rfl, by trivial, fun j hj => absurd hj (Nat.not_lt_zero _)⟩
  case round =>
    obtain ⟨k, hk, rfl, rfl, HA⟩ := hrel
    by_cases hlt : k < n
    · obtain ⟨b, o, rfl, hbl, hc⟩ := HP.out.at_ (k := k) (by rw [HN.out]; exact hlt)
      by_cases hz : iAt l k = 0
      · have HB := one_more (p := fun j => iAt l j = 0) HA hz
        have hx : (iAt l k != 0) = false := by simp [hz]
        clear HA hz
        go_wp2
        go_roundw
        case rel => exact ⟨k + 1, by omega, by go_num, by trivial, HB⟩
        case measure => simp [intOf]; omega
      · have HF := hd (orL_at l k (by rw [HN.out]; exact hlt) HA.out hz)
        have hx : (iAt l k != 0) = true := by simp [hz]
        clear HA hz
        go_wp2
        go_ret
        exact ⟨ret_int HF.out.symm, by trivial⟩
    · have HF := hd (orL_none l fun j hj => HA.out j (by rw [HN.out] at hj; omega))
      clear HA
      go_wp2
      go_ret
      exact ⟨ret_int HF.out.symm, by trivial⟩

set_option maxRecDepth 4000 in
theorem pt_two (w : World) (a b c d : Value) (t t' : TypeId) : ((w.alloc (.cells #[a, b] t)).alloc (.cells #[c, d] t')).cell? ⟨w.heap.size, 0, none⟩ = some a ∧ ((w.alloc (.cells #[a, b] t)).alloc (.cells #[c, d] t')).cell? ⟨w.heap.size, 1, none⟩ = some b ∧
    ((w.alloc (.cells #[a, b] t)).alloc (.cells #[c, d] t')).cell? ⟨w.heap.size + 1, 0, none⟩ = some c ∧ ((w.alloc (.cells #[a, b] t)).alloc (.cells #[c, d] t')).cell? ⟨w.heap.size + 1, 1, none⟩ = some d := by
  have h1 := (Below.refl (w.alloc (.cells #[a, b] t)).heap.size (w.alloc (.cells #[a, b] t))).alloc (Nat.le_refl _) (.cells #[c, d] t')
  refine ⟨(h1.cell (by simp)).trans ?_, (h1.cell (by simp)).trans ?_, ?_, ?_⟩
  · rw [World.cell?_alloc_at _ _ _ _ rfl]; rfl
  · rw [World.cell?_alloc_at _ _ _ _ rfl]; rfl
  · rw [World.cell?_alloc_at _ _ _ _ (by simp)]; rfl
  · rw [World.cell?_alloc_at _ _ _ _ (by simp)]; rfl
set_option maxRecDepth 4000 in
theorem il_two {w : World} {b : Nat} {x y : Int} (hb : b < w.heap.size) (hx : w.cell? ⟨b, 0, none⟩ = some (.int .i64 x)) (hy : w.cell? ⟨b, 1, none⟩ = some (.int .i64 y)) : IL w w.heap.size (some ⟨b, 0, none⟩) [x, y] := fun _ =>
  ⟨b, 0, rfl, hb, fun k hk => by
    match k, hk with
    | 0, _ => exact hx
    | 1, _ => exact hy⟩

set_option maxRecDepth 4000 in
set_option maxHeartbeats 2000000 in
theorem pcompare_any (A B : Option Addr) (p q : List Int × Int) (n m c d : Nat) (w : World) (hn : p.1.length = n) (hm : q.1.length = m) (hl : n ≤ 9223372036854775807) (hl2 : m ≤ 9223372036854775807) (hp : IL w w.heap.size A p.1) (hq : IL w w.heap.size B q.1) :
    Calls Try.prog 68 #[.agg #[.slice A n c, .int .i64 p.2], .agg #[.slice B m d, .int .i64 q.2]] w (Still (.int .i64 (cmpP p q)) w) := by
  subst hn hm
  have HE := hd (orL_two p q)
  obtain ⟨x, hx⟩ : ∃ x, x = cmpL p.1 q.1 := ⟨_, rfl⟩
  obtain ⟨y, hy⟩ : ∃ y, y = cmpI p.2 q.2 := ⟨_, rfl⟩
  rw [← hx, ← hy] at HE
  have HC := hd (fun (W : World) (h : Below w.heap.size w W) => hx ▸ compare_any A B p.1 q.1 c d W hl hl2 (hp.later h) (hq.later h))
  have HI := hd (fun (W : World) => hy ▸ cmp_any p.2 q.2 W)
  have HO := hd (fun (W : World) (g : Nat) (h1 : g < W.heap.size) (h2 : W.cell? ⟨g, 0, none⟩ = some (.int .i64 x)) (h3 : W.cell? ⟨g, 1, none⟩ = some (.int .i64 y)) => HE.out ▸ or_any _ [x, y] 2 2 W rfl (by omega) (il_two h1 h2 h3))
  clear hp hq hx hy
  obtain ⟨W0, hW⟩ : ∃ W0, W0 = (w.alloc (.cells #[.slice A p.1.length c, .int .i64 p.2] 29)).alloc (.cells #[.slice B q.1.length d, .int .i64 q.2] 29) := ⟨_, rfl⟩
  have hz : W0.heap.size = w.heap.size + 2 := by rw [hW]; simp
  have hb0 : Below w.heap.size w W0 := hW ▸ ((Below.refl w.heap.size w).alloc (Nat.le_refl _) _).alloc (by simp) _
  have e0 : W0.cell? ⟨w.heap.size, 0, none⟩ = some (.slice A p.1.length c) ∧ W0.cell? ⟨w.heap.size, 1, none⟩ = some (.int .i64 p.2) ∧ W0.cell? ⟨w.heap.size + 1, 0, none⟩ = some (.slice B q.1.length d) ∧ W0.cell? ⟨w.heap.size + 1, 1, none⟩ = some (.int .i64 q.2) := hW ▸ pt_two w _ _ _ _ _ _
  have HMK := hd (show ∀ W, Below W0.heap.size W0 W → (Below W0.heap.size W0 W ∧ W.cell? ⟨w.heap.size, 0, none⟩ = some (.slice A p.1.length c) ∧ W.cell? ⟨w.heap.size, 1, none⟩ = some (.int .i64 p.2) ∧ W.cell? ⟨w.heap.size + 1, 0, none⟩ = some (.slice B q.1.length d) ∧ W.cell? ⟨w.heap.size + 1, 1, none⟩ = some (.int .i64 q.2)) from fun W h =>
    ⟨h, (h.cell (show w.heap.size < _ by omega)).trans e0.1, (h.cell (show w.heap.size < _ by omega)).trans e0.2.1, (h.cell (show w.heap.size + 1 < _ by omega)).trans e0.2.2.1, (h.cell (show w.heap.size + 1 < _ by omega)).trans e0.2.2.2⟩)
  have HB0 := hd hb0
  have HZ := hd hz
  have HW := hd hW
  clear hW e0 hz hb0
  go_enter Try.func68, Try.ntmps68
  go_wp2
  rw [← HW.out]
  have HSa := hd (HMK.out W0.drew (Below.refl _ _).drew)
  go_region_held3 (fun W => Below W0.heap.size W0 W ∧ W.cell? ⟨w.heap.size, 0, none⟩ = some (.slice A p.1.length c) ∧ W.cell? ⟨w.heap.size, 1, none⟩ = some (.int .i64 p.2) ∧ W.cell? ⟨w.heap.size + 1, 0, none⟩ = some (.slice B q.1.length d) ∧ W.cell? ⟨w.heap.size + 1, 1, none⟩ = some (.int .i64 q.2))
    (first
      | (with_reducible exact HS3.out)
      | (with_reducible exact HS2.out)
      | (with_reducible exact HS1.out)
      | (with_reducible exact HSa.out))
    (first
      | (go_at_call 71; refine (HO.out _ _ (by show w1.heap.size < _; simp) (by rw [World.cell?_alloc_at _ _ _ _ rfl]; rfl) (by rw [World.cell?_alloc_at _ _ _ _ rfl]; rfl)).mono ?_; rintro e w3 ⟨rfl, rfl⟩)
      | (go_at_call 73; refine (HI.out _).mono ?_; rintro e w2 ⟨rfl, rfl⟩; have HS3 := hd (HMK.out (w1.alloc (.cells #[.int .i64 x, .int .i64 y] 3)) (HBd.out.alloc HBd.out.size _)))
      | (go_at_call 72; refine (HC.out _ (HB0.out.trans ((Below.refl _ _).drew.mono HB0.out.size))).mono ?_; rintro e w1 ⟨rfl, k, e1⟩; have HBd := hd (show Below W0.heap.size W0 w1 from e1 ▸ below_drewN (Below.refl W0.heap.size W0).drew k); have HS2 := hd (HMK.out _ HBd.out); clear e1))
  go_wp2
  go_ret
  exact ⟨rfl, HB0.out.trans ((HBd.out.alloc HBd.out.size _).mono HB0.out.size)⟩

set_option maxRecDepth 4000 in
/-- The points that two variables hold: the world behind them, and whatever comes later. -/
theorem two_points {w : World} (a b c d : Value) (t t' : TypeId) : ∃ W0, (w.alloc (.cells #[a, b] t)).alloc (.cells #[c, d] t') = W0 ∧ Below w.heap.size w W0 ∧ W0.heap.size = w.heap.size + 2 ∧
    ∀ W, Below W0.heap.size W0 W → (Below W0.heap.size W0 W ∧ W.cell? ⟨w.heap.size, 0, none⟩ = some a ∧ W.cell? ⟨w.heap.size, 1, none⟩ = some b ∧ W.cell? ⟨w.heap.size + 1, 0, none⟩ = some c ∧ W.cell? ⟨w.heap.size + 1, 1, none⟩ = some d) := by
  refine ⟨_, rfl, ((Below.refl w.heap.size w).alloc (Nat.le_refl _) _).alloc (by simp) _, by simp, fun W h => ?_⟩
  have e0 := pt_two w a b c d t t'
  exact ⟨h, (h.cell (by simp; omega)).trans e0.1, (h.cell (by simp; omega)).trans e0.2.1, (h.cell (by simp)).trans e0.2.2.1, (h.cell (by simp)).trans e0.2.2.2⟩

set_option maxRecDepth 4000 in
theorem psame_pts (A B : Option Addr) (p q : List Int × Int) (n m c d : Nat) (w : World) (hn : p.1.length = n) (hm : q.1.length = m) (hl : n ≤ 9223372036854775807) (hl2 : m ≤ 9223372036854775807) (hp : IL w w.heap.size A p.1) (hq : IL w w.heap.size B q.1) :
    Calls Try.prog 64 #[.agg #[.slice A n c, .int .i64 p.2], .agg #[.slice B m d, .int .i64 q.2]] w (Still (.bool (samP p q)) w) := by
  have HE := hd (samP_is p q)
  have HC := hd (fun (W : World) (h : Below w.heap.size w W) => pcompare_any A B p q n m c d W hn hm hl hl2 (hp.later h) (hq.later h))
  obtain ⟨W0, hW, hb0, hz, hk⟩ := two_points (w := w) (.slice A n c) (.int .i64 p.2) (.slice B m d) (.int .i64 q.2) 29 29
  have HW := hd hW
  have HB0 := hd hb0
  have e0 := hk W0 (Below.refl _ _)
  obtain ⟨_, x0, x1, y0, y1⟩ := e0
  clear hp hq hn hm hW hb0 hz hk
  go_enter Try.func64, Try.ntmps64
  go_wp2_with (go_at_call 68; rw [HW.out]; refine (HC.out _ HB0.out).mono ?_; rintro e w1 ⟨rfl, b1⟩)
  go_ret
  exact ⟨ret_bool (by rw [HE.out]; rfl), HB0.out.trans (b1.mono HB0.out.size)⟩

set_option maxRecDepth 4000 in
theorem prsame_pts (A B : Option Addr) (p q : List Int × Int) (n m c d : Nat) (w : World) (hn : p.1.length = n) (hm : q.1.length = m) (hl : n ≤ 9223372036854775807) (hl2 : m ≤ 9223372036854775807) (hp : IL w w.heap.size A p.1) (hq : IL w w.heap.size B q.1) :
    Calls Try.prog 53 #[.agg #[.slice A n c, .int .i64 p.2], .agg #[.slice B m d, .int .i64 q.2]] w (Still (.bool (samP p q)) w) := by
  subst hn hm
  obtain ⟨x, hx⟩ : ∃ x, x = samI p.1 q.1 := ⟨_, rfl⟩
  have HC := hd (fun (W : World) (h : Below w.heap.size w W) => hx ▸ irsame_any A B p.1 q.1 c d W hl hl2 (hp.later h) (hq.later h))
  obtain ⟨W0, hW, hb0, hz, hk⟩ := two_points (w := w) (.slice A p.1.length c) (.int .i64 p.2) (.slice B q.1.length d) (.int .i64 q.2) 29 29
  have HW := hd hW
  have HB0 := hd hb0
  obtain ⟨_, x0, x1, y0, y1⟩ := hk W0 (Below.refl _ _)
  by_cases h0 : p.2 = q.2
  · have HF := hd (show samP p q = x by
      rw [hx]; unfold samP samI
      rw [decide_eq_decide]
      exact ⟨fun h => by rw [h], fun h => Prod.ext h h0⟩)
    have g0 : (p.2 == q.2) = true := by simp [h0]
    clear hp hq hx hW hb0 hz hk h0
    go_enter Try.func53, Try.ntmps53
    go_wp2_with (go_at_call 31; rw [HW.out]; refine (HC.out _ HB0.out).mono ?_; rintro e w1 ⟨rfl, k, e1⟩; have HB1 := hd (show Below W0.heap.size W0 w1 from e1 ▸ below_drewN (Below.refl W0.heap.size W0) k); clear e1)
    go_ret
    exact ⟨ret_bool HF.out.symm, HB0.out.trans (HB1.out.mono HB0.out.size)⟩
  · have HF := hd (show samP p q = false by unfold samP; rw [decide_eq_false_iff_not]; intro h; exact h0 (by rw [h]))
    have g0 : (p.2 == q.2) = false := by simp [h0]
    clear hp hq hx hW hz hk h0
    go_enter Try.func53, Try.ntmps53
    go_wp2
    go_ret
    exact ⟨ret_bool HF.out.symm, by rw [HW.out]; exact HB0.out⟩

end Go.Proofs.Ytdjajpookmmafaa
