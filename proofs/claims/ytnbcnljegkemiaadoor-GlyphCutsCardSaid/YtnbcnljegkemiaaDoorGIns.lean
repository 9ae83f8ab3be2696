/- Insert, Remove, Cut, and the document's. -/
import Derived.Test.YtnbcnljegkemiaaDoorGCat
import Derived.StillTailTactics
import Derived.Deep.RegionLaw
namespace Go.Proofs.YtnbcnljegkemiaaDoor
open Go.RowKit

theorem insL_err_ (r s : List Int) (p e : Int) (h : atE r p s = e) (he : e ≠ 0) : insL r p s = ([], e) := by
  unfold atE at h
  unfold insL
  split at h
  · rename_i h1
    rw [if_pos h1]
    split at h
    · omega
    · rename_i h2
      rw [if_neg h2, h]
  · rename_i h1
    rw [if_neg h1, h]
theorem insL_ok_ (r s : List Int) (p : Int) (h : atE r p s = 0) : ∃ k : Nat, p = k ∧ k ≤ r.length ∧ insL r p s = (r.take k ++ (s ++ r.drop k), 0) := by
  unfold atE at h
  unfold insL
  split at h
  · rename_i h1
    rw [if_pos h1]
    split at h
    · rename_i h2
      exact ⟨p.toNat, by omega, by omega, by rw [if_pos h2]⟩
    · omega
  · omega
/-- What stands behind a place: the address. -/
theorem cut_run (A : Option Addr) (n c k : Nat) (hk : k ≤ n) (hc : n ≤ c) : ∃ D : Option Addr, (∀ (w : World) (B : Nat) (xs : List Value), VL w B A xs → xs.length = n → VL w B D (xs.drop k)) ∧
    (∀ W : World, (Instr.slice 22 (.slice A n c) (some (.int .i64 (k : Int))) none none).run Tryd.prog W = .ok (.slice D (n - k) (c - k)) W) := by
  refine ⟨if c = k then A else A.map (·.add (k * 1)), fun w B xs h hx => h.drop k c n hx.symm hc, fun W => ?_⟩
  have he : Tryd.prog.elem 22 = 21 := by kernel_rfl
  have hs : ∀ W, (sizeOf 21).run Tryd.prog W = .ok 1 W := fun _ => by kernel_rfl
  rw [run_slice_l W 22 A n c (by rw [he]; exact Tryd.underlying22) .i64 _ (by omega) (by omega), he, hs]
  simp [Result.andThen, sliced]
theorem take_run (A : Option Addr) (n c k : Nat) (hk : k ≤ c) : ∀ W : World, (Instr.slice 22 (.slice A n c) none (some (.int .i64 (k : Int))) none).run Tryd.prog W = .ok (.slice A k c) W := fun W => by
  have he : Tryd.prog.elem 22 = 21 := by kernel_rfl
  have hs : ∀ W, (sizeOf 21).run Tryd.prog W = .ok 1 W := fun _ => by kernel_rfl
  rw [run_slice_h W 22 A n c (by rw [he]; exact Tryd.underlying22) .i64 _ (by omega) (by omega), he, hs]
  have e : (A.map fun x => x.add 0) = A := by
    cases A
    · rfl
    · simp [Addr.add]
  simp [Result.andThen, sliced, e]

def two {α : Type} (x y : α) : Nat → α
  | 0 => x
  | _ => y
def three {α : Type} (x y z : α) : Nat → α
  | 0 => x
  | 1 => y
  | _ => z
theorem NewI.old {w W w' : World} {l : List Int} {e : Ending} (h : NewI W l e w') (hb : Below w.heap.size w W) : NewI w l e w' := by
  obtain ⟨v, he, ho, hb2⟩ := h
  exact ⟨v, he, ho.weaken hb.size, hb.trans (hb2.mono hb.size)⟩
theorem below_drew (w : World) : Below w.heap.size w w.drew := below_drewN (Below.refl _ _) 1
theorem concat3 (A1 A2 A3 : Option Addr) (l1 l2 l3 : List Int) (n1 n2 n3 c1 c2 c3 : Nat) (W : World) (t : TypeId) (g : Nat) (hg : g = W.heap.size) (h1 : l1.length = n1) (h2 : l2.length = n2) (h3 : l3.length = n3) (m1 : n1 ≤ 1000) (m2 : n2 ≤ 1000) (m3 : n3 ≤ 1000)
    (v1 : VL W W.heap.size A1 (rv l1)) (v2 : VL W W.heap.size A2 (rv l2)) (v3 : VL W W.heap.size A3 (rv l3)) :
    Calls Tryd.prog 26 #[.slice (some ⟨g, 0, none⟩) 3 3] (W.alloc (.cells #[.slice A1 n1 c1, .slice A2 n2 c2, .slice A3 n3 c3] t)) (NewI W (l1 ++ (l2 ++ l3))) := by
  subst hg h1 h2 h3
  have hb : Below W.heap.size W (W.alloc (.cells #[.slice A1 l1.length c1, .slice A2 l2.length c2, .slice A3 l3.length c3] t)) := (Below.refl _ _).alloc (Nat.le_refl _) _
  have e : catL (three l1 l2 l3) 3 = l1 ++ (l2 ++ l3) := by simp [catL, three]
  rw [← e]
  refine (concat_any W.heap.size 0 3 3 (three A1 A2 A3) (three l1 l2 l3) (three c1 c2 c3) _ (by omega) (fun k hk => ?_) (fun k hk => ?_) (by simp) (fun k hk => ?_)).mono fun _ _ h => h.old hb
  · match k, hk with
    | 0, _ => exact m1
    | 1, _ => exact m2
    | 2, _ => exact m3
  · rw [World.cell?_alloc_new]
    match k, hk with
    | 0, _ => simp [three]
    | 1, _ => simp [three]
    | 2, _ => simp [three]
  · match k, hk with
    | 0, _ => exact v1.later hb
    | 1, _ => exact v2.later hb
    | 2, _ => exact v3.later hb
theorem concat2 (A1 A2 : Option Addr) (l1 l2 : List Int) (n1 n2 c1 c2 : Nat) (W : World) (t : TypeId) (g : Nat) (hg : g = W.heap.size) (h1 : l1.length = n1) (h2 : l2.length = n2) (m1 : n1 ≤ 1000) (m2 : n2 ≤ 1000)
    (v1 : VL W W.heap.size A1 (rv l1)) (v2 : VL W W.heap.size A2 (rv l2)) :
    Calls Tryd.prog 26 #[.slice (some ⟨g, 0, none⟩) 2 2] (W.alloc (.cells #[.slice A1 n1 c1, .slice A2 n2 c2] t)) (NewI W (l1 ++ l2)) := by
  subst hg h1 h2
  have hb : Below W.heap.size W (W.alloc (.cells #[.slice A1 l1.length c1, .slice A2 l2.length c2] t)) := (Below.refl _ _).alloc (Nat.le_refl _) _
  have e : catL (two l1 l2) 2 = l1 ++ l2 := by simp [catL, two]
  rw [← e]
  refine (concat_any W.heap.size 0 2 2 (two A1 A2) (two l1 l2) (two c1 c2) _ (by omega) (fun k hk => ?_) (fun k hk => ?_) (by simp) (fun k hk => ?_)).mono fun _ _ h => h.old hb
  · match k, hk with
    | 0, _ => exact m1
    | 1, _ => exact m2
  · rw [World.cell?_alloc_new]
    match k, hk with
    | 0, _ => simp [two]
    | 1, _ => simp [two]
  · match k, hk with
    | 0, _ => exact v1.later hb
    | 1, _ => exact v2.later hb

set_option maxRecDepth 100000 in
set_option maxHeartbeats 4000000 in
theorem insert_any (A B : Option Addr) (l m : List Int) (a b c d : Nat) (p : Int) (w : World) (ha : l.length = a) (hb : m.length = b) (hl : a ≤ 1000) (hm : b ≤ 1000) (hac : a ≤ c) (_hbd : b ≤ d) (hp : VL w w.heap.size A (rv l)) (hq : VL w w.heap.size B (rv m)) :
    Calls Tryd.prog 11 #[.slice A a c, .int .i64 p, .slice B b d] w (NewE w (insL l p m)) := by
  obtain ⟨e, he⟩ : ∃ e, atE l p m = e := ⟨_, rfl⟩
  have HC := hd (checkAt_any A B l m a b c d p e he w ha hb (by omega) (by omega) hp hq)
  by_cases he0 : e = 0
  · subst he0
    obtain ⟨k, rfl, hk, hI⟩ := insL_ok_ l m p he
    have HI := hd hI
    obtain ⟨D, hD, hrun2⟩ := cut_run A a c k (by omega) hac
    have hrun1 := take_run A a c k (by omega)
    have HD := hd (hD w w.heap.size (rv l) hp (by rw [rv_len]; exact ha))
    have hka : k ≤ a := by omega
    have HA := hd ha
    have HB := hd hb
    have HP := hd (hp.take k)
    have HQ := hd hq
    rw [← rv_take] at HP
    rw [← rv_drop] at HD
    clear hI he hD hp hq hk ha hb
    go_enter Tryd.func11, Tryd.ntmps11
    go_wp2_with fail
    refine HC.out.mono ?_
    rintro e w' ⟨rfl, rfl⟩
    go_wp2_with fail
    go_still_tail 7, (by kernel_rfl)
    go_wp2_with fail
    refine (concat3 A B D (l.take k) m (l.drop k) k b (a - k) c d (c - k) w.drew _ _ rfl (by have := HA.out; simp; omega) HB.out (by have := HA.out; simp; omega) (by omega) (by omega) (by omega) HP.out HQ.out HD.out).mono ?_
    intro e w2 h2
    obtain ⟨v2, rfl, ho2, hb2⟩ := h2
    go_wp2
    go_ret2
    exact newE_ret HI.out ho2 ((below_drew w).trans hb2)
  · have HE := hd (insL_err_ l m p e he he0)
    have h1 : (e == 0) = false := by simpa using he0
    have h2 : (e != 0) = true := by simpa using he0
    clear he he0 hp hq ha hb
    go_enter Tryd.func11, Tryd.ntmps11
    go_wp2_with fail
    refine HC.out.mono ?_
    rintro e w' ⟨rfl, rfl⟩
    go_wp2
    go_ret2
    exact newE_ret HE.out (OwnV.nil _ _) (Below.refl _ _)

theorem begins_any (A B : Option Addr) (l m : List Int) (a b c d : Nat) (r : Bool) (hr : decide (l.take m.length = m) = r) (w : World) (ha : l.length = a) (hb : m.length = b) (_hl : a ≤ 1000) (hm : b ≤ 1000) (hac : a ≤ c) (hp : VL w w.heap.size A (rv l)) (hq : VL w w.heap.size B (rv m)) :
    Calls Tryd.prog 27 #[.slice A a c, .slice B b d] w (Quiet (.bool r) w) := by
  by_cases hba : b ≤ a
  · have hv := hp.take b
    rw [← rv_take] at hv
    have HC := hd (same_any A B (l.take b) m b b c d r (by unfold sameL; rw [← hr, hb]) w (by simp; omega) hb (by omega) (by omega) hv hq)
    have hrun1 := take_run A a c b (by omega)
    clear hr ha hb hp hq hv
    go_enter Tryd.func27, Tryd.ntmps27
    go_wp2_with fail
    refine HC.out.mono ?_
    rintro e w' ⟨rfl, kd, rfl⟩
    go_wp2
    go_ret
    exact ret_quiet rfl (by first | exact ⟨_, rfl⟩ | exact ⟨_, World.drewN_drewN _ _ _⟩ | exact ⟨_, (World.drewN_drewN _ _ _).trans (World.drewN_drewN _ _ _)⟩)
  · have HF := hd (show r = false by
      rw [← hr]
      refine decide_eq_false fun e => ?_
      have := congrArg List.length e
      simp at this
      omega)
    have hx : decide (b ≤ a) = false := decide_eq_false hba
    clear hr ha hb hp hq hba
    go_enter Tryd.func27, Tryd.ntmps27
    go_wp2
    go_ret
    exact ret_quiet (bool_eq (by rw [HF.out])) ⟨0, rfl⟩

theorem remL_err_ (r s : List Int) (p e : Int) (h : atE r p s = e) (he : e ≠ 0) : remL r p s = ([], e) := by
  unfold atE at h
  unfold remL
  split at h
  · rename_i h1
    rw [if_pos h1]
    split at h
    · omega
    · rename_i h2
      rw [if_neg h2, h]
  · rename_i h1
    rw [if_neg h1, h]
theorem remL_ok_ (r s : List Int) (p : Int) (h : atE r p s = 0) : ∃ k : Nat, p = k ∧ k ≤ r.length ∧ remL r p s = if (r.drop k).take s.length = s then (r.take k ++ r.drop (k + s.length), 0) else ([], 9) := by
  unfold atE at h
  unfold remL
  split at h
  · rename_i h1
    rw [if_pos h1]
    split at h
    · rename_i h2
      exact ⟨p.toNat, by omega, by omega, by rw [if_pos h2]⟩
    · omega
  · omega
set_option maxRecDepth 100000 in
set_option maxHeartbeats 4000000 in
theorem remove_any (A B : Option Addr) (l m : List Int) (a b c d : Nat) (p : Int) (w : World) (ha : l.length = a) (hb : m.length = b) (hl : a ≤ 1000) (hm : b ≤ 1000) (hac : a ≤ c) (_hbd : b ≤ d) (hp : VL w w.heap.size A (rv l)) (hq : VL w w.heap.size B (rv m)) :
    Calls Tryd.prog 13 #[.slice A a c, .int .i64 p, .slice B b d] w (NewE w (remL l p m)) := by
  obtain ⟨e, he⟩ : ∃ e, atE l p m = e := ⟨_, rfl⟩
  have HC := hd (checkAt_any A B l m a b c d p e he w ha hb (by omega) (by omega) hp hq)
  by_cases he0 : e = 0
  · subst he0
    obtain ⟨k, rfl, hk, hI⟩ := remL_ok_ l m p he
    obtain ⟨D, hD, hrun2⟩ := cut_run A a c k (by omega) hac
    have hrun1 := take_run A a c k (by omega)
    have hvd := hD w w.heap.size (rv l) hp (by rw [rv_len]; exact ha)
    rw [← rv_drop] at hvd
    have hka : k ≤ a := by omega
    have hld : (l.drop k).length = a - k := by rw [List.length_drop, ha]
    cases hr : decide ((l.drop k).take m.length = m)
    · have HG := hd (begins_any D B (l.drop k) m (a - k) b (c - k) d false hr w hld hb (by omega) hm (by omega) hvd hq)
      have HE := hd (show remL l k m = ([], 9) by rw [hI, if_neg (of_decide_eq_false hr)])
      clear hI he hD hp hq hk ha hb hr hvd hld
      go_enter Tryd.func13, Tryd.ntmps13
      go_wp2_with fail
      refine HC.out.mono ?_
      rintro e w' ⟨rfl, rfl⟩
      go_wp2_with fail
      refine HG.out.mono ?_
      rintro e w' ⟨rfl, kd, rfl⟩
      go_wp2
      go_ret2
      exact newE_ret HE.out (OwnV.nil _ _) (below_drewN (Below.refl _ _) _)
    · have hbeg := of_decide_eq_true hr
      have hbl : k + b ≤ a := by
        have := congrArg List.length hbeg
        simp at this
        omega
      obtain ⟨D2, hD2, hrun3⟩ := cut_run A a c (k + b) hbl hac
      have hvd2 := hD2 w w.heap.size (rv l) hp (by rw [rv_len]; exact ha)
      rw [← rv_drop] at hvd2
      have hrun4 : ∀ W : World, (Instr.slice 22 (.slice A a c) (some (.int .i64 ((k : Int) + (b : Int)))) none none).run Tryd.prog W = .ok (.slice D2 (a - (k + b)) (c - (k + b))) W := fun W => by
        have := hrun3 W
        rwa [Int.natCast_add] at this
      have hwr : IntKind.i64.wrap ((k : Int) + (b : Int)) = (k : Int) + (b : Int) := IntWalk.i64_in _ (by omega)
      have HG := hd (begins_any D B (l.drop k) m (a - k) b (c - k) d true hr w hld hb (by omega) hm (by omega) hvd hq)
      have HE := hd (show remL l k m = (l.take k ++ l.drop (k + m.length), 0) by rw [hI, if_pos hbeg])
      have HA := hd ha
      have HB := hd hb
      have HP := hd (hp.take k)
      rw [← rv_take] at HP
      have HD2 := hd hvd2
      rw [← HB.out] at HD2
      clear hI he hD hp hq hk ha hb hr hvd hld hD2 hvd2 hrun3 hbeg
      go_enter Tryd.func13, Tryd.ntmps13
      go_wp2_with fail
      refine HC.out.mono ?_
      rintro e w' ⟨rfl, rfl⟩
      go_wp2_with fail
      refine HG.out.mono ?_
      intro e w1 h1
      obtain ⟨rfl, hb1⟩ := h1.still
      have HP := hd (HP.out.later hb1)
      have HD2 := hd (HD2.out.later hb1)
      clear h1
      go_wp2_with fail
      go_still_tail 9, (by kernel_rfl)
      go_wp2_with fail
      refine (concat2 A D2 (l.take k) (l.drop (k + m.length)) k (a - (k + b)) c (c - (k + b)) w1.drew _ _ rfl (by have := HA.out; simp; omega) (by have := HA.out; have := HB.out; simp; omega) (by omega) (by omega) HP.out HD2.out).mono ?_
      intro e w2 h2
      obtain ⟨v2, rfl, ho2, hb2⟩ := h2.old (w := w) (hb1.trans ((below_drew w1).mono hb1.size))
      go_wp2
      go_ret2
      exact newE_ret HE.out ho2 hb2
  · have HE := hd (remL_err_ l m p e he he0)
    have h1 : (e == 0) = false := by simpa using he0
    have h2 : (e != 0) = true := by simpa using he0
    clear he he0 hp hq ha hb
    go_enter Tryd.func13, Tryd.ntmps13
    go_wp2_with fail
    refine HC.out.mono ?_
    rintro e w' ⟨rfl, rfl⟩
    go_wp2
    go_ret2
    exact newE_ret HE.out (OwnV.nil _ _) (Below.refl _ _)

def NewC (w : World) (r : (List Int × List Int) × Int) (e : Ending) (w' : World) : Prop := ∃ v1 v2, e = .returned (.tuple #[v1, v2, .int .i64 r.2]) ∧ OwnV 21 w' w.heap.size v1 (rv r.1.1) ∧ OwnV 21 w' w.heap.size v2 (rv r.1.2) ∧ Below w.heap.size w w'
theorem newC_ret {w w' : World} {r : (List Int × List Int) × Int} {l m : List Int} {e : Int} {v1 v2 : Value} (h : r = ((l, m), e)) (h1 : OwnV 21 w' w.heap.size v1 (rv l)) (h2 : OwnV 21 w' w.heap.size v2 (rv m)) (hb : Below w.heap.size w w') : NewC w r (.returned (.tuple #[v1, v2, .int .i64 e])) w' := by
  subst h; exact ⟨v1, v2, rfl, h1, h2, hb⟩
theorem cutL_err_ (r : List Int) (p e : Int) (h : atE r p [] = e) (he : e ≠ 0) : cutL r p = (([], []), e) := by
  unfold atE at h
  unfold cutL
  have h0 : okR [] = true := rfl
  rw [h0, Bool.and_true] at h
  split at h
  · rename_i h1
    rw [if_pos h1]
    split at h
    · omega
    · rename_i h2
      rw [if_neg h2, h]
  · rename_i h1
    rw [if_neg h1, h]
theorem cutL_ok_ (r : List Int) (p : Int) (h : atE r p [] = 0) : ∃ k : Nat, p = k ∧ k ≤ r.length ∧ cutL r p = ((r.take k, r.drop k), 0) := by
  unfold atE at h
  unfold cutL
  have h0 : okR [] = true := rfl
  rw [h0, Bool.and_true] at h
  split at h
  · rename_i h1
    rw [if_pos h1]
    split at h
    · rename_i h2
      exact ⟨p.toNat, by omega, by omega, by rw [if_pos h2]⟩
    · omega
  · omega
set_option maxRecDepth 100000 in
set_option maxHeartbeats 4000000 in
theorem cut_any (A : Option Addr) (l : List Int) (a c : Nat) (p : Int) (w : World) (ha : l.length = a) (hl : a ≤ 1000) (hac : a ≤ c) (hp : VL w w.heap.size A (rv l)) :
    Calls Tryd.prog 15 #[.slice A a c, .int .i64 p] w (NewC w (cutL l p)) := by
  obtain ⟨e, he⟩ : ∃ e, atE l p [] = e := ⟨_, rfl⟩
  have HC := hd (checkAt_any A none l [] a 0 c 0 p e he w ha rfl (by omega) (by omega) hp (VL.nil _ _ _))
  by_cases he0 : e = 0
  · subst he0
    obtain ⟨k, rfl, hk, hI⟩ := cutL_ok_ l p he
    obtain ⟨D, hD, hrun2⟩ := cut_run A a c k (by omega) hac
    have hrun1 := take_run A a c k (by omega)
    have hvd := hD w w.heap.size (rv l) hp (by rw [rv_len]; exact ha)
    rw [← rv_drop] at hvd
    have hka : k ≤ a := by omega
    have HI := hd hI
    have HP := hd (hp.take k)
    rw [← rv_take] at HP
    have F1 : Hid (∀ W : World, Below w.heap.size w W → Calls Tryd.prog 28 #[.slice A k c] W (NewI W (l.take k))) := hd (fun W hb => fresh_any A (l.take k) k c W (by simp; omega) (by omega) (HP.out.later hb))
    have F2 : Hid (∀ W : World, Below w.heap.size w W → Calls Tryd.prog 28 #[.slice D (a - k) (c - k)] W (NewI W (l.drop k))) := hd (fun W hb => fresh_any D (l.drop k) (a - k) (c - k) W (by simp; omega) (by omega) (hvd.later hb))
    clear hI he hD hp hk ha hvd
    go_enter Tryd.func15, Tryd.ntmps15
    go_wp2_with fail
    refine HC.out.mono ?_
    rintro e w' ⟨rfl, rfl⟩
    go_wp2_with fail
    go_region_law (first | ((go_simp; go_at_call 28; refine (F1.out _ (below_drew w)).mono ?_; intro e w2 h2; obtain ⟨v2, rfl, ho2, hb2⟩ := h2)) | ((go_simp; go_at_call 28; refine (F2.out _ ((below_drew w).trans (hb2.mono (by simp)))).mono ?_; intro e w3 h3; obtain ⟨v3, rfl, ho3, hb3⟩ := h3)))
    go_wp2
    go_ret3
    have hb2' : Below w.heap.size w w2 := (below_drew w).trans hb2
    have hb3' : Below w.heap.size w w3 := hb2'.trans (hb3.mono hb2'.size)
    exact newC_ret HI.out (ho2.below hb3) (ho3.weaken hb2'.size) hb3'
  · have HE := hd (cutL_err_ l p e he he0)
    have h1 : (e == 0) = false := by simpa using he0
    have h2 : (e != 0) = true := by simpa using he0
    clear he he0 hp ha
    go_enter Tryd.func15, Tryd.ntmps15
    go_wp2_with fail
    refine HC.out.mono ?_
    rintro e w' ⟨rfl, rfl⟩
    go_wp2
    go_ret3
    exact newC_ret HE.out (OwnV.nil _ _) (OwnV.nil _ _) (Below.refl _ _)

end Go.Proofs.YtnbcnljegkemiaaDoor
