/- The program's formed. keepsAll: what is filled and wrapped is kept, by all rules; filled. The document's fills. The program's keepsAll, filled, Fills, Check. The program's filled, Fills, Check. The program's Fills and Check. -/
import Derived.Test.YtegaapeaeffgoaaJAAsk2
import Derived.Test.YtegaapeaeffgoaaJASeek
import Derived.Lib.MinMax
namespace Go.Proofs.Ytegaapeaeffgoaa
open Go.RowKit

def ordQ (c : ScC) (k : Nat) : Int := match k with
  | 0 => c.o1
  | 1 => c.o2
  | 2 => c.o3
  | 3 => c.o4
  | 4 => c.o5
  | _ => c.o6
set_option maxRecDepth 4000 in
theorem ordQ_cell {w : World} {g : Nat} {c : ScC} (h : VarR 30 w g c.row) {k : Nat} (hk : k < 6) : w.cell? ⟨g, 9 + k, none⟩ = some (.int .i64 (ordQ c k)) := by
  match k, hk with
  | 0, _ => exact h.cell 9 _ rfl
  | 1, _ => exact h.cell 10 _ rfl
  | 2, _ => exact h.cell 11 _ rfl
  | 3, _ => exact h.cell 12 _ rfl
  | 4, _ => exact h.cell 13 _ rfl
  | 5, _ => exact h.cell 14 _ rfl
/-- Class c is in the order. -/
def inO (c : ScC) (i : Nat) : Bool := anyN (fun k => ((i : Int) + 1) == ordQ c k) 6
set_option maxRecDepth 4000 in
theorem inO_any (c : ScC) (i : Nat) : inO c i = [c.o1, c.o2, c.o3, c.o4, c.o5, c.o6].any fun x => ((i : Int) + 1) == x := range_any (ordQ c) [c.o1, c.o2, c.o3, c.o4, c.o5, c.o6] (fun k hk => by
  match k, hk with
  | 0, _ => rfl
  | 1, _ => rfl
  | 2, _ => rfl
  | 3, _ => rfl
  | 4, _ => rfl
  | 5, _ => rfl
  | k + 6, h => simp at h; omega) fun x => ((i : Int) + 1) == x
set_option maxRecDepth 4000 in
theorem order_in {c : ScC} : orderT [c.o1, c.o2, c.o3, c.o4, c.o5, c.o6] = (inO c 0 && (inO c 1 && (inO c 2 && (inO c 3 && (inO c 4 && inO c 5))))) := by
  rw [order_mem rfl]
  simp only [inO_any, List.all_cons, List.all_nil, Bool.and_true]
  rfl
set_option maxRecDepth 4000 in
theorem order_all {c : ScC} (h : ∀ j, j < 6 → inO c j = true) : orderT [c.o1, c.o2, c.o3, c.o4, c.o5, c.o6] = true := by
  rw [order_in, h 0 (by omega), h 1 (by omega), h 2 (by omega), h 3 (by omega), h 4 (by omega), h 5 (by omega)]; rfl
set_option maxRecDepth 4000 in
theorem order_no {c : ScC} {j : Nat} (hj : j < 6) (h : inO c j = false) : orderT [c.o1, c.o2, c.o3, c.o4, c.o5, c.o6] = false := by
  rw [order_in]
  match j, hj with
  | 0, _ => simp [h]
  | 1, _ => simp [h]
  | 2, _ => simp [h]
  | 3, _ => simp [h]
  | 4, _ => simp [h]
  | 5, _ => simp [h]
set_option maxRecDepth 4000 in
theorem run_ord (w : World) (g : Nat) : (Instr.sliceAt 28 (.pointer (some ⟨g, 9, none⟩)) none none none).run Try.prog w = .ok (.slice (some ⟨g, 9, none⟩) 6 6) w := by
  have ha : Try.prog.arrayLen 28 = 6 := by kernel_rfl
  have he : Try.prog.elem 28 = 3 := by kernel_rfl
  have hs : (sizeOf 3).run Try.prog w = .ok 1 w := by kernel_rfl
  rw [run_sliceAt_array_all w 28 _ (by kernel_rfl), he, hs, ha]
  rfl

set_option maxRecDepth 100000 in
set_option maxHeartbeats 8000000 in
theorem formed_any {w : World} {c : ScC} {s : SchT} (h : ScAt w c s) (_hfit : ∀ r ∈ allT s, FitR r) {E : Bool} (hE : okSchA s = E) : Calls Try.prog 20 #[.agg c.row] w (Still (.bool E) w) := by
  have hb : Below w.heap.size w (w.alloc (.cells c.row 30)) := (Below.refl _ _).alloc (Nat.le_refl _) _
  have hv := VarR.new w 30 c.row
  obtain ⟨W0, hW⟩ : ∃ W0, w.alloc (.cells c.row 30) = W0 := ⟨_, rfl⟩
  rw [hW] at hb hv
  have h0 := h.later hb
  obtain ⟨cs, hcs⟩ := h0.rules
  have hN : s.rules.length = c.nr := h.len
  have hO := h.hord
  have hC := h.hcap
  have hT : s.els.ty = c.e.ty := h.els.hty
  rw [okSchA_parts, hO, hC, hT] at hE
  obtain ⟨A, hA⟩ : ∃ A, okA1 s = A := ⟨_, rfl⟩
  rw [hA] at hE
  have HC1 := hd (rise_rule (c := c.cr) (ruAt cs) (rowA_rules hN hcs) (fun k hk => by
    have h1 := (hcs.ru (k := k) (by omega))
    rw [← h1.hty]
    exact h1.fit.ty) h.max (E := A) (by rw [← hA, okA1, rulesOk_rise, hN]; congr 1; exact rise_congr fun k hk => ((hcs.ru (k := k) (by omega)).hty).symm))
  have HE := hd hE
  have HW := hd hW
  have HB := hd hb
  have V1 := hd hv
  have l0 : W0.cell? ⟨w.heap.size, 0, none⟩ = some (.slice c.R c.nr c.cr) := hv.cell 0 _ rfl
  cases A with
  | false =>
    clear h hb hv hW h0 hcs hN hO hC hT hE hA _hfit
    go_enter Try.func20, Try.ntmps20
    go_upto_region 1 with fail
    rw [HW.out]
    go_wp2_with (go_at_call 35; refine HC1.out.mono ?_; rintro e9 w1 ⟨rfl, b9⟩; have HB := hd (step_b HB.out b9); clear b9)
    go_ret
    exact ⟨ret_bool (by simpa using HE.out), HB.out⟩
  | true =>
    have hn32 : s.rules.length ≤ 32 := by
      unfold okA1 at hA
      rw [Bool.and_eq_true, decide_eq_true_eq] at hA
      exact hA.1
    have HRU := hd (fun (W : World) (hb : Below W0.heap.size W0 W) => rules_any (h0.later hb) (by omega))
    have HFN := hd (fun (W : World) (A : Option Addr) (n cp : Nat) (ds : List RuC) (hn : (allT s).length = n) (hu : LU W A ds (allT s)) (B : Bool) (hB : (allT s).all ruleOk = B) => cont_rule (w := W) (A := A) (n := n) (c := cp) (fid := 39) (bs := #[]) (rows := fun k => (ruAt ds k).row) (p := fun k => !ruleOk (rulAt (allT s) k)) (E := !B) (by rw [← hn]; simp [allT]; omega) (rowA_rules hn hu) ⟨fun _ _ => by kernel_rfl, fun k hk W' hb => formed1_any ((hu.ru (k := k) (by omega)).later hb) rfl⟩ (by rw [anyN_not, ← hn, range_all (rulAt (allT s)) (allT s) (fun k hk => rulAt_mem hk) ruleOk, hB]))
    have hem : (emptyN c.e.ty = true ∧ c.e.ty.toList = [] ∧ c.e.ty.toList.isEmpty = true) ∨ (emptyN c.e.ty = false ∧ c.e.ty.toList ≠ [] ∧ c.e.ty.toList.isEmpty = false) := by
      unfold emptyN
      cases h : c.e.ty.toList with
      | nil => exact .inl ⟨rfl, rfl, rfl⟩
      | cons x l => exact .inr ⟨rfl, by simp, rfl⟩
    clear h hb hv hW h0 hcs hN hO hC hT hE hA _hfit
    have l1 : W0.cell? ⟨w.heap.size, 1, none⟩ = some (.string c.e.ty) := V1.out.cell 1 _ rfl
    have l15 : W0.cell? ⟨w.heap.size, 15, none⟩ = some (.int .i64 c.cap) := V1.out.cell 15 _ rfl
    have HB0 := hd (Below.refl W0.heap.size W0)
    rcases hem with ⟨z, y0, y1⟩ | ⟨z, y0, y1⟩
    · have HZ := hd z
      clear z
      by_cases c1 : c.cap < 1
      · go_enter Try.func20, Try.ntmps20
        go_upto_region 1 with fail
        rw [HW.out]
        go_wp2_with (go_at_call 35; refine HC1.out.mono ?_; rintro e9 w1 ⟨rfl, b9⟩; clear l0 l1 l15; have V1 := hd (V1.out.keep b9); have l0 : w1.cell? ⟨w.heap.size, 0, none⟩ = some (.slice c.R c.nr c.cr) := V1.out.cell 0 _ rfl; have l1 : w1.cell? ⟨w.heap.size, 1, none⟩ = some (.string c.e.ty) := V1.out.cell 1 _ rfl; have l15 : w1.cell? ⟨w.heap.size, 15, none⟩ = some (.int .i64 c.cap) := V1.out.cell 15 _ rfl; have HB := hd (step_b HB.out b9); have HB0 := hd (step_b HB0.out b9); clear b9)
        go_ret
        exact ⟨ret_bool (by have e1 := HE.out; rw [dec_no (show ¬ 1 ≤ c.cap by omega)] at e1; simpa using e1), HB.out⟩
      · by_cases c2 : 1048576 < c.cap
        · go_enter Try.func20, Try.ntmps20
          go_upto_region 1 with fail
          rw [HW.out]
          go_wp2_with (go_at_call 35; refine HC1.out.mono ?_; rintro e9 w1 ⟨rfl, b9⟩; clear l0 l1 l15; have V1 := hd (V1.out.keep b9); have l0 : w1.cell? ⟨w.heap.size, 0, none⟩ = some (.slice c.R c.nr c.cr) := V1.out.cell 0 _ rfl; have l1 : w1.cell? ⟨w.heap.size, 1, none⟩ = some (.string c.e.ty) := V1.out.cell 1 _ rfl; have l15 : w1.cell? ⟨w.heap.size, 15, none⟩ = some (.int .i64 c.cap) := V1.out.cell 15 _ rfl; have HB := hd (step_b HB.out b9); have HB0 := hd (step_b HB0.out b9); clear b9)
          go_ret
          exact ⟨ret_bool (by have e1 := HE.out; rw [dec_no (show ¬ c.cap ≤ 1048576 by omega)] at e1; simpa using e1), HB.out⟩
        · go_enter Try.func20, Try.ntmps20
          go_upto_region 1 with fail
          rw [HW.out]
          go_upto_region 3 with (go_at_call 35; refine HC1.out.mono ?_; rintro e9 w1 ⟨rfl, b9⟩; clear l0 l1 l15; have V1 := hd (V1.out.keep b9); have l0 : w1.cell? ⟨w.heap.size, 0, none⟩ = some (.slice c.R c.nr c.cr) := V1.out.cell 0 _ rfl; have l1 : w1.cell? ⟨w.heap.size, 1, none⟩ = some (.string c.e.ty) := V1.out.cell 1 _ rfl; have l15 : w1.cell? ⟨w.heap.size, 15, none⟩ = some (.int .i64 c.cap) := V1.out.cell 15 _ rfl; have HB := hd (step_b HB.out b9); have HB0 := hd (step_b HB0.out b9); clear b9)
          have HE2 := hd (show (orderT [c.o1, c.o2, c.o3, c.o4, c.o5, c.o6] && (allT s).all ruleOk) = E by
            have e1 := HE.out
            rw [HZ.out, decide_eq_true (show 1 ≤ c.cap by omega), decide_eq_true (show c.cap ≤ 1048576 by omega)] at e1
            exact e1)
          clear l0 l1 l15 y0 y1
          go_wp2_with fail
          go_loopw [3] (fun i wr => ∃ k : Nat, k ≤ 6 ∧ i = .int .i64 ((k : Int) + 1) ∧ wr = w1 ∧ Hid (∀ j, j < k → inO c j = true)) (fun i _ => 7 - (intOf i).toNat)
          case atStart => exact ⟨0, by omega, rfl, rfl, hd (fun j hj => absurd hj (Nat.not_lt_zero _))⟩
          case round =>
            obtain ⟨k, hk1, rfl, rfl, HA⟩ := hrel
            have hsl := run_ord
            by_cases hlt : k < 6
            · have hle : decide ((k : Int) + 1 ≤ 6) = true := by simpa using (by omega : (k : Int) + 1 ≤ 6)
              cases hp : inO c k
              · have HX := hd (HE2.out.symm.trans (by rw [order_no hlt hp, Bool.false_and]))
                have HCN := hd (contains_any (w := wr) (A := some ⟨w.heap.size, 9, none⟩) (n := 6) (c := 6) (ordQ c) ((k : Int) + 1) (by omega) (fun j hj => ⟨_, _, rfl, ordQ_cell V1.out hj⟩) hp)
                clear HA hp
                go_wp2_with (go_at_call 37; refine HCN.out.mono ?_; rintro e9 w2 ⟨rfl, rfl⟩)
                go_ret
                exact ⟨ret_bool HX.out.symm, HB.out⟩
              · have HX := one_more HA hp
                have HCN := hd (contains_any (w := wr) (A := some ⟨w.heap.size, 9, none⟩) (n := 6) (c := 6) (ordQ c) ((k : Int) + 1) (by omega) (fun j hj => ⟨_, _, rfl, ordQ_cell V1.out hj⟩) hp)
                clear HA hp
                go_wp2_with (go_at_call 37; refine HCN.out.mono ?_; rintro e9 w2 ⟨rfl, rfl⟩)
                go_roundw
                case rel => exact ⟨k + 1, by omega, by go_num, trivial, HX⟩
                case measure => simp [intOf]; omega
            · obtain rfl : k = 6 := by omega
              obtain ⟨B, hB⟩ : ∃ B, (allT s).all ruleOk = B := ⟨_, rfl⟩
              have HX := hd (show B = E by
                have e1 := HE2.out
                rw [order_all HA.out, hB] at e1
                exact e1)
              have HBB := hd hB
              clear HA hB
              go_wp2_with (first
                | ((with_reducible refine gd_load (ty := 30) (x := .tmp 1) ?_); refine wpList_load_row rowT_sch V1.out rfl _ rfl rfl rfl ?_)
                | (go_at_call 22; refine (HRU.out _ HB0.out).mono ?_; rintro e9 w4 ⟨A4, n4, c4, ds, rfl, hn4, hu4, b9⟩; have HU := hd hu4; have HN4 := hd hn4; have HB := hd (step_b HB.out b9); clear hn4 hu4 b9)
                | (go_at_call 38; refine (HFN.out w4 A4 n4 c4 ds HN4.out HU.out B HBB.out).mono ?_; rintro e9 w5 ⟨rfl, b9⟩; have HB := hd (step_b HB.out b9); clear b9))
              go_ret
              exact ⟨ret_bool HX.out, HB.out⟩
    · have HZ := hd z
      clear z
      go_enter Try.func20, Try.ntmps20
      go_upto_region 1 with fail
      rw [HW.out]
      go_wp2_with (go_at_call 35; refine HC1.out.mono ?_; rintro e9 w1 ⟨rfl, b9⟩; clear l0 l1 l15; have V1 := hd (V1.out.keep b9); have l0 : w1.cell? ⟨w.heap.size, 0, none⟩ = some (.slice c.R c.nr c.cr) := V1.out.cell 0 _ rfl; have l1 : w1.cell? ⟨w.heap.size, 1, none⟩ = some (.string c.e.ty) := V1.out.cell 1 _ rfl; have l15 : w1.cell? ⟨w.heap.size, 15, none⟩ = some (.int .i64 c.cap) := V1.out.cell 15 _ rfl; have HB := hd (step_b HB.out b9); have HB0 := hd (step_b HB0.out b9); clear b9)
      go_ret
      exact ⟨ret_bool (by have e1 := HE.out; rw [HZ.out] at e1; simpa using e1), HB.out⟩

end Go.Proofs.Ytegaapeaeffgoaa

namespace Go.Proofs.Ytegaapeaeffgoaa
open Go.RowKit

set_option maxRecDepth 100000 in
set_option maxHeartbeats 4000000 in
theorem keeps11_any {w : World} {c : ScC} {s : SchT} {d : RuC} {r : RuleT} {n : NC} {q : Option Nm} {gs gr : Nat} (vs : VarR 30 w gs c.row) (vr : VarR 27 w gr d.row) (h : ScAt w c s) (hr : RuAt w d r) (hq : QAt w n q) (hl : s.rules.length ≤ 1000) (hk : ∀ x ∈ allT s, x.kids.length ≤ 1000) (hrk : r.kids.length ≤ 1000) (hnm : (actQ r q).act = 4 → (actQ r q).ty ≠ noN) {E : Bool} (hE : wrapQ s r q = E) :
    Calls Try.prog 45 #[.agg n.row, .pointer (some ⟨gs, 0, none⟩), .pointer (some ⟨gr, 0, none⟩)] w (Still (.bool (!E)) w) := by
  have hb : Below w.heap.size w (w.alloc (.cells n.row 41)) := (Below.refl _ _).alloc (Nat.le_refl _) _
  have hv := VarR.new w 41 n.row
  obtain ⟨W0, hW⟩ : ∃ W0, w.alloc (.cells n.row 41) = W0 := ⟨_, rfl⟩
  rw [hW] at hb hv
  have HC := hd (keepswrap_any (h.later hb) (hr.later hb) (hq.later hb) hl hk hrk hnm hE)
  have HW := hd hW
  have HB := hd hb
  have V1 := hd (vs.keep hb)
  have V2 := hd (vr.keep hb)
  have V3 := hd hv
  clear vs vr h hr hq hl hk hrk hnm hE hW hb hv
  go_enter Try.func45, Try.ntmps45
  go_upto_region 1 with fail
  rw [HW.out]
  go_wp2_with (first
    | ((with_reducible refine gd_load (ty := 30) (x := .tmp 1) ?_); refine wpList_load_row rowT_sch V1.out rfl _ rfl rfl rfl ?_)
    | ((with_reducible refine gd_load (ty := 27) (x := .tmp 2) ?_); refine wpList_load_row rowT_rule V2.out rfl _ rfl rfl rfl ?_)
    | ((with_reducible refine gd_load (ty := 41) (x := .tmp 3) ?_); refine wpList_load_row rowT_node V3.out rfl _ rfl rfl rfl ?_)
    | (go_at_call 46; refine HC.out.mono ?_; rintro e9 w1 ⟨rfl, b9⟩; have HB := hd (step_b HB.out b9); clear b9))
  go_ret
  exact ⟨rfl, HB.out⟩

def ncAt (cs : List NC) (k : Nat) : NC := cs.getD k voidC
def qAt (qs : List (Option Nm)) (k : Nat) : Option Nm := qs.getD k none
set_option maxRecDepth 4000 in
theorem ncAt_at {cs : List NC} {k : Nat} (h : k < cs.length) : cs[k]? = some (ncAt cs k) := by simp [ncAt, List.getD, h]
set_option maxRecDepth 4000 in
theorem qAt_at {qs : List (Option Nm)} {k : Nat} (h : k < qs.length) : qs[k]? = some (qAt qs k) := by simp [qAt, List.getD, h]
set_option maxRecDepth 4000 in
theorem qAt_mem {qs : List (Option Nm)} {k : Nat} (h : k < qs.length) : qAt qs k = qs[k] := by simp [qAt, List.getD, h]
set_option maxRecDepth 4000 in
theorem rowA_nodes {w : World} {A : Option Addr} {cs : List NC} {n : Nat} (hn : cs.length = n) (h : VL w w.heap.size A (cellsN cs)) : RowA w A n 4 (fun k => (ncAt cs k).row) :=
  ⟨fun _ => rfl, fun k hk => by
    obtain ⟨b, o, e, hb, hr⟩ := h.row NC.len (by decide) (k := k) (by omega)
    exact ⟨b, o, e, hb, by show w.rangeAt b (o + k * 4) (ncAt cs k).row.toList; rw [show ncAt cs k = cs[k]'(by omega) by simp [ncAt, List.getD, show k < cs.length by omega]]; exact hr⟩⟩
/-- What a rule does is as it should be, of all nodes asked. -/
def keepR (s : SchT) (qs : List (Option Nm)) (r : RuleT) : Bool := filledT r && qs.all (wrapQ s r)
set_option maxRecDepth 100000 in
set_option maxHeartbeats 4000000 in
theorem keeps1_any {w : World} {c : ScC} {s : SchT} {d : RuC} {r : RuleT} {A : Option Addr} {n cp : Nat} {cs : List NC} {qs : List (Option Nm)} {ga gs : Nat} (va : w.cell? ⟨ga, 0, none⟩ = some (.slice A n cp)) (vs : VarR 30 w gs c.row) (h : ScAt w c s) (hr : RuAt w d r) (hc : cs.length = n) (hqn : qs.length = n) (hn4 : n ≤ 4000) (hv : VL w w.heap.size A (cellsN cs)) (hq : ∀ (k : Nat) (c : NC) (q : Option Nm), cs[k]? = some c → qs[k]? = some q → QAt w c q)
    (hl : s.rules.length ≤ 1000) (hk : ∀ x ∈ allT s, x.kids.length ≤ 1000) (hok : ruleOk r = true) {E : Bool} (hE : keepR s qs r = E) :
    Calls Try.prog 42 #[.agg d.row, .pointer (some ⟨ga, 0, none⟩), .pointer (some ⟨gs, 0, none⟩)] w (Still (.bool (!E)) w) := by
  have hrk : r.kids.length ≤ 1000 := by
    simp only [ruleOk, Bool.and_eq_true, decide_eq_true_eq] at hok
    omega
  have hb : Below w.heap.size w (w.alloc (.cells d.row 27)) := (Below.refl _ _).alloc (Nat.le_refl _) _
  have hv3 := VarR.new w 27 d.row
  obtain ⟨W0, hW⟩ : ∃ W0, w.alloc (.cells d.row 27) = W0 := ⟨_, rfl⟩
  rw [hW] at hb hv3
  obtain ⟨F, hF⟩ : ∃ F, filledT r = F := ⟨_, rfl⟩
  obtain ⟨G, hG⟩ : ∃ G, qs.all (wrapQ s r) = G := ⟨_, rfl⟩
  have HF := hd (keepsfill_any (hr.later hb) (by omega) (fun h2 => by
    have h1 := hok
    simp only [ruleOk, Bool.and_eq_true] at h1
    have h3 := h1.2.2.2.2.2
    unfold fillT at h3
    rw [if_neg (by omega), if_pos h2] at h3
    exact nameT_ne h3) hF)
  have HG := fun (W : World) (hb2 : Below W0.heap.size W0 W) => hd (cont_node (w := W) (c := cp) (fid := 45) (bs := #[.pointer (some ⟨gs, 0, none⟩), .pointer (some ⟨w.heap.size, 0, none⟩)]) (p := fun k => !wrapQ s r (qAt qs k)) (E := !G) (by omega) (rowA_nodes hc ((hv.later hb).later hb2)) ⟨fun _ _ => by kernel_rfl, fun k hk2 W' hb3 => keeps11_any (((vs.keep hb).keep hb2).keep hb3) ((hv3.keep hb2).keep hb3) (((h.later hb).later hb2).later hb3) (((hr.later hb).later hb2).later hb3) ((((hq k _ _ (ncAt_at (by omega)) (qAt_at (by omega))).later hb).later hb2).later hb3) hl hk hrk (fun ha => wrap_name (_s := s) hok ha) rfl⟩ (by rw [anyN_not, ← hqn, range_all (qAt qs) qs (fun k hk => qAt_mem hk) (wrapQ s r), hG]))
  rw [keepR, hF, hG] at hE
  have HE := hd hE
  have HW := hd hW
  have HB := hd hb
  have HB0 := hd (Below.refl W0.heap.size W0)
  have V3 := hd hv3
  have HVA := hd ((hb.cell (cell_in va)).trans va)
  have HVL := hd (Nat.lt_of_lt_of_le (cell_in va) hb.size)
  clear va vs h hr hc hqn hn4 hv hq hl hk hok hE hrk hb hv3 hW hF hG
  cases F with
  | false =>
    go_enter Try.func42, Try.ntmps42
    go_upto_region 1 with fail
    rw [HW.out]
    go_wp2_with (first
      | ((with_reducible refine gd_load (ty := 27) (x := .tmp 3) ?_); refine wpList_load_row rowT_rule V3.out rfl _ rfl rfl rfl ?_)
      | (go_at_call 43; refine HF.out.mono ?_; rintro e9 w1 ⟨rfl, b9⟩; have HB := hd (step_b HB.out b9); clear b9))
    go_ret
    exact ⟨ret_bool (by rw [← HE.out]; rfl), HB.out⟩
  | true =>
    go_enter Try.func42, Try.ntmps42
    go_upto_region 1 with fail
    rw [HW.out]
    go_wp2_with (first
      | ((with_reducible refine gd_load (ty := 27) (x := .tmp 3) ?_); refine wpList_load_row rowT_rule V3.out rfl _ rfl rfl rfl ?_)
      | (go_at_call 43; refine HF.out.mono ?_; rintro e9 w1 ⟨rfl, b9⟩; have HB := hd (step_b HB.out b9); have HB0 := hd (step_b HB0.out b9); have la : w1.cell? ⟨ga, 0, none⟩ = some (.slice A n cp) := (b9.cell (p := ⟨ga, 0, none⟩) HVL.out).trans HVA.out; clear b9)
      | (go_at_call 44; refine (HG _ HB0.out).out.mono ?_; rintro e9 w2 ⟨rfl, b9⟩; have HB := hd (step_b HB.out b9); clear b9))
    all_goals (go_ret; exact ⟨ret_bool (by have e1 := HE.out; simpa using congrArg (!·) e1), HB.out⟩)

end Go.Proofs.Ytegaapeaeffgoaa

namespace Go.Proofs.Ytegaapeaeffgoaa
open Go.RowKit

/-- What fills answers. -/
def fansT (F : Option Nat) : Value := .tuple #[.int .i64 ((F.getD 0 : Nat) : Int), .bool F.isSome]
end Go.Proofs.Ytegaapeaeffgoaa

namespace Go.Proofs.Ytegaapeaeffgoaa
open Go.RowKit

theorem asked_all {s : SchT} {r : RuleT} {qs : List (Option Nm)} (hq : ∀ q, q ∈ qs ↔ q = none ∨ q = some noN ∨ ∃ k, (k ∈ rawT s ∧ k ≠ noN) ∧ q = some k) : qs.all (wrapQ s r) = wrapsT s r := by
  have h0 : wrapQ s r none = wrapL s r := rfl
  have h1 : ∀ k, wrapQ s r (some k) = wrapK s r k := fun _ => rfl
  unfold wrapsT
  rw [Bool.eq_iff_iff, List.all_eq_true, Bool.and_eq_true, List.all_eq_true]
  constructor
  · intro h
    refine ⟨h0 ▸ h none ((hq none).2 (.inl rfl)), fun k hk => ?_⟩
    rw [← h1]
    refine h (some k) ((hq _).2 ?_)
    rcases Classical.em (k = noN) with e | e
    · exact .inr (.inl (by rw [e]))
    · rcases List.mem_append.1 hk with hk | hk
      · exact .inr (.inr ⟨k, ⟨hk, e⟩, rfl⟩)
      · simp at hk
        exact absurd hk e
  · rintro ⟨ha, hb⟩ q hqm
    rcases (hq q).1 hqm with rfl | rfl | ⟨k, ⟨hk, _⟩, rfl⟩
    · rw [h0]; exact ha
    · rw [h1]; exact hb noN (by simp)
    · rw [h1]; exact hb k (by simp [hk])
def keepsZ (s : SchT) : Bool := (allT s).all fun r => filledT r && wrapsT s r
set_option maxRecDepth 4000 in
theorem okA_rules {s : SchT} (h : okSchA s = true) : s.rules.length ≤ 32 := by
  simp only [okSchA, Bool.and_eq_true, decide_eq_true_eq] at h
  exact h.1
set_option maxRecDepth 4000 in
theorem okA_kids {s : SchT} (h : okSchA s = true) {r : RuleT} (hr : r ∈ allT s) : r.kids.length ≤ 32 := by
  have h1 := ok_rule h hr
  simp only [ruleOk, Bool.and_eq_true, decide_eq_true_eq] at h1
  exact h1.1
set_option maxRecDepth 4000 in
theorem okA_fill {s : SchT} (h : okSchA s = true) {r : RuleT} (hr : r ∈ allT s) : r.fill = 0 ∨ r.fill = 1 ∨ r.fill = 2 := by
  have h1 := ok_rule h hr
  simp only [ruleOk, Bool.and_eq_true] at h1
  have h3 := h1.2.2.2.2.2
  unfold fillT at h3
  split at h3
  · omega
  · split at h3
    · omega
    · cases h3
set_option maxRecDepth 4000 in
theorem szs_nodes (w : World) (t : TypeId) (v : Value) : (w.alloc (.cells #[v] t)).cell? ⟨w.heap.size, 0, none⟩ = some v := by
  rw [World.cell?_alloc_at _ _ _ _ rfl]; rfl
set_option maxRecDepth 100000 in
set_option maxHeartbeats 8000000 in
theorem keepsall_any {w : World} {c : ScC} {s : SchT} (h : ScAt w c s) (hok : okSchA s = true) {E : Bool} (hE : keepsZ s = E) : Calls Try.prog 21 #[.agg c.row] w (Still (.bool E) w) := by
  have hl := okA_rules hok
  have hkk : ∀ r ∈ allT s, r.kids.length ≤ 32 := fun r hr => okA_kids hok hr
  have hb : Below w.heap.size w (w.alloc (.cells c.row 30)) := (Below.refl _ _).alloc (Nat.le_refl _) _
  have hv := VarR.new w 30 c.row
  obtain ⟨W0, hW⟩ : ∃ W0, w.alloc (.cells c.row 30) = W0 := ⟨_, rfl⟩
  rw [hW] at hb hv
  have HAS := hd (asked_any (h.later hb) hl hkk)
  have HRU := fun (W : World) (hb : Below w.heap.size w W) => hd (rules_any (h.later hb) (by omega))
  have HFN := hd (fun (W : World) (hbw : Below w.heap.size w W) (ga : Nat) (A : Option Addr) (n cp : Nat) (va : W.cell? ⟨ga, 0, none⟩ = some (.slice A n cp)) (vs : VarR 30 W w.heap.size c.row) (cs : List NC) (qs : List (Option Nm)) (hc : cs.length = n) (hqn : qs.length = n) (hn4 : n ≤ 4000) (hvl : VL W W.heap.size A (cellsN cs)) (hqa : ∀ (k : Nat) (c : NC) (q : Option Nm), cs[k]? = some c → qs[k]? = some q → QAt W c q) (hqq : ∀ q, q ∈ qs ↔ q = none ∨ q = some noN ∨ ∃ k, (k ∈ rawT s ∧ k ≠ noN) ∧ q = some k) (B : Option Addr) (m cq : Nat) (ds : List RuC) (hm : (allT s).length = m) (hu : LU W B ds (allT s)) =>
    cont_rule (w := W) (A := B) (n := m) (c := cq) (fid := 42) (bs := #[.pointer (some ⟨ga, 0, none⟩), .pointer (some ⟨w.heap.size, 0, none⟩)]) (rows := fun k => (ruAt ds k).row) (p := fun k => !keepR s qs (rulAt (allT s) k)) (E := !E) (by rw [← hm]; simp [allT]; omega) (rowA_rules hm hu)
      ⟨fun _ _ => by kernel_rfl, fun k hk W' hb2 => keeps1_any ((hb2.cell (cell_in va)).trans va) (vs.keep hb2) ((h.later hbw).later hb2) ((hu.ru (k := k) (by omega)).later hb2) hc hqn hn4 (hvl.later hb2) (fun k x q h1 h2 => (hqa k x q h1 h2).later hb2) (by omega) (fun x hx => by have := hkk x hx; omega) (ok_rule hok (by rw [rulAt_mem (by omega)]; exact List.getElem_mem _)) rfl⟩
      (by
        rw [anyN_not, ← hm, range_all (rulAt (allT s)) (allT s) (fun k hk => rulAt_mem hk) (keepR s qs), ← hE]
        unfold keepsZ keepR
        simp only [asked_all hqq]))
  have HW := hd hW
  have HB := hd hb
  have V1 := hd hv
  clear h hok hl hkk hb hv hW hE
  go_enter Try.func21, Try.ntmps21
  go_upto_region 1 with fail
  rw [HW.out]
  go_upto_region 2 with (first
    | ((with_reducible refine gd_load (ty := 30) (x := .tmp 1) ?_); refine wpList_load_row rowT_sch V1.out rfl _ rfl rfl rfl ?_)
    | (go_at_call 41; refine HAS.out.mono ?_; rintro e9 w1 ⟨A, n, cp, cs, qs, rfl, hc1, hq1, hn1, hv1, ha1, hm1, b9⟩; have HC1 := hd hc1; have HQ1 := hd hq1; have HN1 := hd hn1; have HV1 := hd hv1; have HA1 := hd ha1; have HM1 := hd hm1; have V1 := hd (V1.out.keep b9); have HB := hd (step_b HB.out b9); clear hc1 hq1 hn1 hv1 ha1 hm1 b9))
  obtain ⟨g, hg⟩ : ∃ g, w1.heap.size = g := ⟨_, rfl⟩
  obtain ⟨W2, hW2⟩ : ∃ W2, w1.alloc (.cells #[.slice A n cp] 39) = W2 := ⟨_, rfl⟩
  have hb2 : Below w1.heap.size w1 W2 := hW2 ▸ (Below.refl _ _).alloc (Nat.le_refl _) _
  have hcell : W2.cell? ⟨g, 0, none⟩ = some (.slice A n cp) := by rw [← hW2, ← hg]; exact szs_nodes _ _ _
  have HCE := hd hcell
  have HCL := hd (cell_in hcell)
  have V1 := hd (V1.out.keep hb2)
  have HB := hd (step_b HB.out hb2)
  have HV1 := hd (HV1.out.later hb2)
  have HA1 := hd (show ∀ (k : Nat) (c : NC) (q : Option Nm), cs[k]? = some c → qs[k]? = some q → QAt W2 c q from fun k x q h1 h2 => (HA1.out k x q h1 h2).later hb2)
  rw [hW2, hg]
  clear hg hW2 hb2 hcell
  go_wp2_with (first
    | ((with_reducible refine gd_load (ty := 30) (x := .tmp 1) ?_); refine wpList_load_row rowT_sch V1.out rfl _ rfl rfl rfl ?_)
    | (go_at_call 22; refine (HRU _ HB.out).out.mono ?_; rintro e9 w3 ⟨B, m, cq, ds, rfl, hm3, hu3, b9⟩; have HM3 := hd hm3; have HU3 := hd hu3; have HCE := hd ((b9.cell (p := ⟨g, 0, none⟩) HCL.out).trans HCE.out); have V1 := hd (V1.out.keep b9); have HB := hd (step_b HB.out b9); have HV1 := hd (HV1.out.later b9); have HA1 := hd (show ∀ (k : Nat) (c : NC) (q : Option Nm), cs[k]? = some c → qs[k]? = some q → QAt w3 c q from fun k x q h1 h2 => (HA1.out k x q h1 h2).later b9); clear hm3 hu3 b9)
    | (go_at_call 38; refine (HFN.out w3 HB.out g A n cp HCE.out V1.out cs qs HC1.out HQ1.out HN1.out HV1.out HA1.out HM1.out B m cq ds HM3.out HU3.out).mono ?_; rintro e9 w4 ⟨rfl, b9⟩; have HB := hd (step_b HB.out b9); clear b9))
  all_goals (go_ret; exact ⟨ret_bool (by simp), HB.out⟩)

end Go.Proofs.Ytegaapeaeffgoaa

namespace Go.Proofs.Ytegaapeaeffgoaa
open Go.RowKit

set_option maxRecDepth 100000 in
set_option maxHeartbeats 8000000 in
theorem filled_any {w : World} {c : ScC} {s : SchT} {d : RuC} {r : RuleT} (h : ScAt w c s) (hr : RuAt w d r) (hl : s.rules.length ≤ 1000) (hfl : ∀ x ∈ allT s, x.fill = 0 ∨ x.fill = 1 ∨ x.fill = 2) (hrf : r.fill = 0 ∨ r.fill = 1 ∨ r.fill = 2) {F : Option Nat} (hF : fillsT s r = F) : Calls Try.prog 23 #[.agg c.row, .agg d.row] w (Still (fansT F) w) := by
  obtain ⟨R, nr, cr, e, o1, o2, o3, o4, o5, o6, cap⟩ := c
  obtain ⟨W0, hW, hb, v1, v2⟩ := arows2 w 30 27 (ScC.mk R nr cr e o1 o2 o3 o4 o5 o6 cap).row d.row
  have HS := hd h
  have HR := hd hr
  have HFL := hd hfl
  have HRF := hd hrf
  have HN := hd (show s.rules.length = nr from h.len)
  have hlk : nr ≤ 1000 := HN.out ▸ hl
  have HF := hd (show (fillsN s (nr + 2) r).map (· + 0) = F by rw [← HN.out, ← hF]; simp [fillsT])
  have HW := hd hW
  have HB := hd hb
  have V1 := hd v1
  have V2 := hd v2
  clear h hr hl hF hW hb v1 v2 hfl hrf
  go_enter Try.func23, Try.ntmps23
  go_upto_region 1 with fail
  rw [HW.out]
  go_loopw [4] (fun v wr => ∃ n : Nat, n ≤ nr + 1 ∧ v = .int .i64 n ∧ ∃ d' r', Hid (VarR 30 wr w.heap.size (ScC.mk R nr cr e o1 o2 o3 o4 o5 o6 cap).row) ∧ Hid (VarR 27 wr (w.heap.size + 1) d'.row) ∧ Hid (RuAt w d' r') ∧ Hid (r'.fill = 0 ∨ r'.fill = 1 ∨ r'.fill = 2) ∧ Hid (Below w.heap.size w wr) ∧ Hid ((fillsN s (nr + 2 - n) r').map (· + n) = F)) (fun v _ => nr + 2 - (intOf v).toNat)
  case atStart => exact ⟨0, Nat.zero_le _, rfl, d, r, V1, V2, HR, HRF, HB, HF⟩
  case round =>
    obtain ⟨n, hn1, rfl, d', r', V1, V2, HR, HRF, HB, HF⟩ := hrel
    obtain ⟨m, hm⟩ : ∃ m, nr + 2 - n = m + 1 := ⟨nr + 1 - n, by omega⟩
    have y4 : wr.cell? ⟨w.heap.size + 1, 6, none⟩ = some (.int .i64 d'.fill) := V2.out.cell 6 _ rfl
    have hfl : r'.fill = d'.fill := HR.out.hfill
    have hft : r'.fty = d'.fty := HR.out.hfty
    have hF2 := HF.out
    have hrf := HRF.out
    rw [hm, fillsN, hfl, hft] at hF2
    rw [hfl] at hrf
    by_cases h0 : d'.fill = 0
    · rw [if_pos h0] at hF2
      have HX := hd hF2
      have e0 : (d'.fill == 2) = false := by rw [h0]; rfl
      have e1 : (d'.fill == 1) = false := by rw [h0]; rfl
      clear hF2 hfl hft hrf h0
      go_wp2_with fail
      go_ret2
      exact ⟨by rw [← HX.out]; simp [fansT], HB.out⟩
    · rw [if_neg h0] at hF2
      by_cases h1 : d'.fill = 1
      · rw [if_pos h1] at hF2
        have HX := hd hF2
        have e0 : (d'.fill == 2) = false := by rw [h1]; rfl
        have e1 : (d'.fill == 1) = true := by rw [h1]; rfl
        clear hF2 hfl hft hrf h0 h1
        go_wp2_with fail
        go_ret2
        exact ⟨by rw [← HX.out]; simp [fansT]; omega, HB.out⟩
      · have h2 : d'.fill = 2 := by omega
        rw [if_neg h1] at hF2
        have e0 : (d'.fill == 2) = true := by rw [h2]; rfl
        have l0 : wr.cell? ⟨w.heap.size, 0, none⟩ = some (.slice R nr cr) := V1.out.cell 0 _ rfl
        by_cases hgt : nr < n
        · have HX := hd (show (none : Option Nat) = F by
            obtain rfl : m = 0 := by omega
            rw [fillsN] at hF2
            exact hF2)
          have hgi : (nr : Int) < (n : Int) := by omega
          clear hF2 hfl hft hrf h0 h1 h2
          go_wp2_with fail
          go_ret2
          exact ⟨by rw [← HX.out]; rfl, HB.out⟩
        · have HX := hd (show (fillsN s (nr + 2 - (n + 1)) (ruleT s d'.fty)).map (· + (n + 1)) = F by
            rw [show nr + 2 - (n + 1) = m by omega, ← hF2, Option.map_map]
            congr 1
            funext x
            simp [Function.comp]; omega)
          have y5 : wr.cell? ⟨w.heap.size + 1, 7, none⟩ = some (.string d'.fty) := V2.out.cell 7 _ rfl
          have HC := hd (ruleof_any HS.out HB.out (by rw [HN.out]; omega) (k := d'.fty) rfl)
          have HRF2 := hd (HFL.out _ (ruleT_mem s d'.fty))
          have hgi : decide ((nr : Int) < (n : Int)) = false := dec_no (by omega)
          clear hF2 hfl hft hrf h0 h1 h2
          go_wp2_with (first
            | ((with_reducible refine gd_load (ty := 30) (x := .tmp 2) ?_); refine wpList_load_row rowT_sch V1.out rfl _ rfl rfl rfl ?_)
            | (go_at_call 33; refine HC.out.mono ?_; rintro e w1 ⟨c2, rfl, hr2, b9⟩; have HR2 := hd hr2; have V1 := hd (V1.out.keep b9); have V2 := hd (V2.out.keep b9); have HB := hd (step_b HB.out b9); clear hr2 b9)
            | ((with_reducible refine gd_store (ty := 27) (x := .tmp 3) ?_); refine wpList_store_row2 rowT_rule (r := c2.row) V2.out rfl rfl c2.one _ _ rfl rfl rfl rfl rfl ?_; intro W9 hv9 ho9; have HB := hd (off_below HB.out ho9 (Nat.le_succ _)); have V1 := hd (V1.out.off ho9 (by omega)); have V2 := hd hv9; clear hv9 ho9))
          go_roundw
          case rel => exact ⟨n + 1, by omega, by go_num, c2, _, V1, V2, HR2, HRF2, HB, HX⟩
          case measure => simp [intOf]; omega

/-- What Fills tells. -/
def ansF (s : SchT) : Value := .tuple #[.int .i64 (if okSch s then (mostT s : Int) else 0), .int .i64 (if okSch s then 0 else 12)]
def ansE (s : SchT) : Int := if okSch s then 0 else 12
def most0 (s : SchT) (l : List RuleT) : Nat := (l.map fun r => (fillsT s r).getD 0).foldl max 0
set_option maxRecDepth 4000 in
theorem most0_step {s : SchT} {l : List RuleT} {k : Nat} (h : k < l.length) : most0 s (l.take (k + 1)) = max (most0 s (l.take k)) ((fillsT s (rulAt l k)).getD 0) := by
  unfold most0
  rw [List.take_add_one, List.getElem?_eq_getElem h, rulAt_mem h, List.map_append, List.foldl_append]
  rfl
set_option maxRecDepth 4000 in
theorem okZ_parts (s : SchT) : okSchZ s = (keepsZ s && (allT s).all fun r => (fillsT s r).isSome) := by
  unfold okSchZ keepsZ
  rw [← all_and]
  congr 1
  funext r
  cases wrapsT s r <;> cases filledT r <;> simp
set_option maxRecDepth 4000 in
theorem fills_small {s : SchT} : ∀ (f : Nat) (r : RuleT) (n : Nat), fillsN s f r = some n → n ≤ f
  | 0, _, _, h => by simp [fillsN] at h
  | f + 1, r, n, h => by
    unfold fillsN at h
    split at h
    · injection h with h; omega
    · split at h
      · injection h with h; omega
      · obtain ⟨m, h1, h2⟩ := Option.map_eq_some_iff.1 h
        have := fills_small f _ m h1
        omega
set_option maxRecDepth 4000 in
theorem fillsD_small {s : SchT} (hl : s.rules.length ≤ 1000) (r : RuleT) : (fillsT s r).getD 0 ≤ 1002 := by
  cases h : fillsT s r with
  | none => simp
  | some n =>
    have := fills_small _ r n h
    simp only [Option.getD_some]
    omega
set_option maxRecDepth 4000 in
theorem foldl_le : ∀ (l : List Nat) (b c : Nat), b ≤ c → (∀ x ∈ l, x ≤ c) → l.foldl max b ≤ c
  | [], b, c, h, _ => h
  | x :: l, b, c, h, hx => by
    rw [List.foldl_cons]
    exact foldl_le l _ c (by have := hx x (by simp); omega) fun y hy => hx y (by simp [hy])
set_option maxRecDepth 4000 in
theorem most_small {s : SchT} (hl : s.rules.length ≤ 1000) (l : List RuleT) : most0 s l ≤ 1002 :=
  foldl_le _ 0 1002 (by omega) fun x hx => by
    obtain ⟨r, _, rfl⟩ := List.mem_map.1 hx
    exact fillsD_small hl r

end Go.Proofs.Ytegaapeaeffgoaa

namespace Go.Proofs.Ytegaapeaeffgoaa
open Go.RowKit

theorem fansT_some {s : SchT} {r : RuleT} {n : Nat} (h : fillsT s r = some n) : fansT (fillsT s r) = .tuple #[.int .i64 n, .bool true] := by rw [h]; rfl
set_option maxRecDepth 4000 in
theorem fansT_none {s : SchT} {r : RuleT} (h : fillsT s r = none) : fansT (fillsT s r) = .tuple #[.int .i64 0, .bool false] := by rw [h]; rfl
set_option maxRecDepth 4000 in
theorem ans_no {s : SchT} (h : okSch s = false) : ansF s = .tuple #[.int .i64 0, .int .i64 12] := by unfold ansF; rw [h]; rfl
set_option maxRecDepth 4000 in
theorem ans_yes {s : SchT} (h : okSch s = true) : ansF s = .tuple #[.int .i64 (mostT s), .int .i64 0] := by unfold ansF; rw [h]; rfl
set_option maxRecDepth 4000 in
theorem tuple_ret {a b : Value} (h : a = b) : Ending.returned a = .returned b := by rw [h]
set_option maxRecDepth 100000 in
set_option maxHeartbeats 8000000 in
theorem fills_any {w : World} {c : ScC} {s : SchT} (h : ScAt w c s) (hfit : ∀ r ∈ allT s, FitR r) : Calls Try.prog 9 #[.agg c.row] w (Still (ansF s) w) := by
  have hb : Below w.heap.size w (w.alloc (.cells c.row 30)) := (Below.refl _ _).alloc (Nat.le_refl _) _
  have hv := VarR.new w 30 c.row
  obtain ⟨W0, hW⟩ : ∃ W0, w.alloc (.cells c.row 30) = W0 := ⟨_, rfl⟩
  rw [hW] at hb hv
  obtain ⟨A, hA⟩ : ∃ A, okSchA s = A := ⟨_, rfl⟩
  have HF := hd (formed_any (h.later hb) hfit hA)
  have HS := hd h
  have HW := hd hW
  have HB := hd hb
  have V1 := hd hv
  clear h hfit hb hv hW
  cases A with
  | false =>
    have HX := hd (ans_no (s := s) (by unfold okSch; rw [hA]; rfl))
    clear hA
    go_enter Try.func9, Try.ntmps9
    go_upto_region 1 with fail
    rw [HW.out]
    go_wp2_with (first
      | ((with_reducible refine gd_load (ty := 30) (x := .tmp 1) ?_); refine wpList_load_row rowT_sch V1.out rfl _ rfl rfl rfl ?_)
      | (go_at_call 20; refine HF.out.mono ?_; rintro e9 w1 ⟨rfl, b9⟩; have V1 := hd (V1.out.keep b9); have HB := hd (step_b HB.out b9); clear b9))
    go_ret2
    exact ⟨tuple_ret HX.out.symm, HB.out⟩
  | true =>
    obtain ⟨Z, hZ⟩ : ∃ Z, keepsZ s = Z := ⟨_, rfl⟩
    have HK := fun (W : World) (hb : Below w.heap.size w W) => hd (keepsall_any (HS.out.later hb) hA hZ)
    cases Z with
    | false =>
      have HX := hd (ans_no (s := s) (by unfold okSch; rw [hA, okZ_parts, hZ]; rfl))
      clear hA hZ
      go_enter Try.func9, Try.ntmps9
      go_upto_region 1 with fail
      rw [HW.out]
      go_wp2_with (first
        | ((with_reducible refine gd_load (ty := 30) (x := .tmp 1) ?_); refine wpList_load_row rowT_sch V1.out rfl _ rfl rfl rfl ?_)
        | ((with_reducible refine gd_loadg (ty := 30) (x := .tmp 1) ?_); refine wpList_load_rowg rowT_sch V1.out rfl _ rfl (by rfl) rfl ?_)
        | (go_at_call 20; refine HF.out.mono ?_; rintro e9 w1 ⟨rfl, b9⟩; have V1 := hd (V1.out.keep b9); have HB := hd (step_b HB.out b9); clear b9)
        | (go_at_call 21; refine (HK _ HB.out).out.mono ?_; rintro e9 w2 ⟨rfl, b9⟩; have V1 := hd (V1.out.keep b9); have HB := hd (step_b HB.out b9); clear b9))
      go_ret2
      exact ⟨tuple_ret HX.out.symm, HB.out⟩
    | true =>
      have hl := okA_rules hA
      have HRU := fun (W : World) (hb : Below w.heap.size w W) => hd (rules_any (HS.out.later hb) (by omega))
      have HFI := fun (W : World) (hb : Below w.heap.size w W) (d : RuC) (k : Nat) (hk : k < (allT s).length) (hr : RuAt W d (rulAt (allT s) k)) => hd (filled_any (HS.out.later hb) hr (by omega) (fun x hx => okA_fill hA hx) (okA_fill hA (by rw [rulAt_mem hk]; exact List.getElem_mem _)) rfl)
      have HOK := hd (show okSch s = (allT s).all fun r => (fillsT s r).isSome by unfold okSch; rw [hA, okZ_parts, hZ]; rfl)
      have HML := hd (fun l => most_small (s := s) (by omega) l)
      have HFS := hd (fun r => fillsD_small (s := s) (by omega) r)
      clear hA hZ
      go_enter Try.func9, Try.ntmps9
      go_upto_region 1 with fail
      rw [HW.out]
      go_upto_region 4 with (first
        | ((with_reducible refine gd_load (ty := 30) (x := .tmp 1) ?_); refine wpList_load_row rowT_sch V1.out rfl _ rfl rfl rfl ?_)
        | ((with_reducible refine gd_loadg (ty := 30) (x := .tmp 1) ?_); refine wpList_load_rowg rowT_sch V1.out rfl _ rfl (by rfl) rfl ?_)
        | (go_at_call 20; refine HF.out.mono ?_; rintro e9 w1 ⟨rfl, b9⟩; have V1 := hd (V1.out.keep b9); have HB := hd (step_b HB.out b9); clear b9)
        | (go_at_call 21; refine (HK _ HB.out).out.mono ?_; rintro e9 w2 ⟨rfl, b9⟩; have V1 := hd (V1.out.keep b9); have HB := hd (step_b HB.out b9); clear b9))
      go_wp2_with (first
        | ((with_reducible refine gd_load (ty := 30) (x := .tmp 1) ?_); refine wpList_load_row rowT_sch V1.out rfl _ rfl rfl rfl ?_)
        | (go_at_call 22; refine (HRU _ HB.out).out.mono ?_; rintro e9 w4 ⟨A4, n4, c4, ds, rfl, hn4, hu4, b9⟩; have HU := hd hu4; have HN4 := hd hn4; have V1 := hd (V1.out.keep b9); have HB := hd (step_b HB.out b9); clear hn4 hu4 b9))
      have hn33 : n4 ≤ 33 := by have h1 := HN4.out; simp [allT] at h1; omega
      go_loopw [4, 20] (fun v i wr => ∃ k : Nat, k ≤ n4 ∧ i = .int .i64 k ∧ v = .int .i64 (most0 s ((allT s).take k)) ∧ Hid (∀ j, j < k → (fillsT s (rulAt (allT s) j)).isSome = true) ∧ Hid (Below w4.heap.size w4 wr)) (fun _ i _ => n4 - (intOf i).toNat)
      case atStart => exact ⟨0, Nat.zero_le _, rfl, rfl, hd (fun j hj => absurd hj (Nat.not_lt_zero _)), hd (Below.refl _ _)⟩
      case round =>
        obtain ⟨k, hk1, rfl, rfl, HA, HB4⟩ := hrel
        have V1 := hd (V1.out.keep HB4.out)
        have HB := hd (step_b HB.out HB4.out)
        by_cases hlt : k < n4
        · have hlt2 : k < (allT s).length := by rw [HN4.out]; exact hlt
          have HRU := hd ((HU.out.later HB4.out).ru hlt2)
          obtain ⟨b, o, hR, hbl, hrg⟩ := (rowA_rules HN4.out (HU.out.later HB4.out)).2 k hlt
          obtain rfl : A4 = some ⟨b, o, none⟩ := hR
          obtain ⟨p, hp⟩ : ∃ p, ruAt ds k = p := ⟨_, rfl⟩
          simp only [hp] at hrg
          rw [hp] at HRU
          have HRG := hd hrg
          obtain ⟨W2, hW2⟩ : ∃ W2, wr.alloc (.cells p.row 27) = W2 := ⟨_, rfl⟩
          obtain ⟨g, hg⟩ : ∃ g, wr.heap.size = g := ⟨_, rfl⟩
          have hb2 : Below wr.heap.size wr W2 := hW2 ▸ (Below.refl _ _).alloc (Nat.le_refl _) _
          have V6 := hd (show VarR 27 W2 g p.row by rw [← hW2, ← hg]; exact VarR.new wr _ _)
          have V1 := hd (V1.out.keep hb2)
          have HB := hd (step_b HB.out hb2)
          have HBQ := hd (step_b HB4.out hb2)
          have HC := hd ((HFI _ HB.out p k hlt2 (HRU.out.later hb2)).out)
          have HW2 := hd hW2
          have HG := hd hg
          obtain ⟨M, hM⟩ : ∃ M, most0 s ((allT s).take k) = M := ⟨_, rfl⟩
          have hM9 : M ≤ 1002 := by rw [← hM]; exact HML.out _
          cases hfr : fillsT s (rulAt (allT s) k) with
          | none =>
            have HX := hd (ans_no (s := s) (by
              rw [HOK.out]
              refine Bool.eq_false_iff.2 fun e => ?_
              have := List.all_eq_true.1 e (rulAt (allT s) k) (by rw [rulAt_mem hlt2]; exact List.getElem_mem _)
              rw [hfr] at this
              cases this))
            rw [fansT_none hfr] at HC
            rw [hM]
            clear hrg hb2 hW2 hg hbl hp hfr hM HA
            go_upto_region 7 with (first
              | ((with_reducible refine gd_load (ty := 27) (x := .tmp 22) ?_); refine wpList_load_at rowT_rule (r := p.row) HRG.out rfl _ rfl rfl rfl ?_)
              | ((with_reducible refine gd_store (ty := 27) (x := .tmp 6) ?_); refine wpList_store_new rowT_rule (r := p.row) rfl rfl p.one _ _ rfl rfl rfl rfl rfl rfl ?_))
            rw [HW2.out, HG.out]
            go_wp2_with (first
              | ((with_reducible refine gd_load (ty := 30) (x := .tmp 1) ?_); refine wpList_load_row rowT_sch V1.out rfl _ rfl rfl rfl ?_)
              | ((with_reducible refine gd_load (ty := 27) (x := .tmp 6) ?_); refine wpList_load_row rowT_rule V6.out rfl _ rfl rfl rfl ?_)
              | (go_at_call 23; refine HC.out.mono ?_; rintro e9 w7 ⟨rfl, b9⟩; have HB := hd (step_b HB.out b9); clear b9))
            go_ret2
            exact ⟨tuple_ret HX.out.symm, HB.out⟩
          | some x =>
            have HX := one_more (p := fun j => (fillsT s (rulAt (allT s) j)).isSome = true) HA (by rw [hfr]; rfl)
            have hx9 : x ≤ 1002 := by have := HFS.out (rulAt (allT s) k); rw [hfr] at this; exact this
            have HMX := hd (show most0 s ((allT s).take (k + 1)) = max M x by rw [most0_step hlt2, hM, hfr]; rfl)
            rw [fansT_some hfr] at HC
            rw [hM]
            clear hrg hb2 hW2 hg hbl hp hfr hM HA
            go_upto_region 7 with (first
              | ((with_reducible refine gd_load (ty := 27) (x := .tmp 22) ?_); refine wpList_load_at rowT_rule (r := p.row) HRG.out rfl _ rfl rfl rfl ?_)
              | ((with_reducible refine gd_store (ty := 27) (x := .tmp 6) ?_); refine wpList_store_new rowT_rule (r := p.row) rfl rfl p.one _ _ rfl rfl rfl rfl rfl rfl ?_))
            rw [HW2.out, HG.out]
            go_wp2_with (first
              | ((with_reducible refine gd_load (ty := 30) (x := .tmp 1) ?_); refine wpList_load_row rowT_sch V1.out rfl _ rfl rfl rfl ?_)
              | ((with_reducible refine gd_load (ty := 27) (x := .tmp 6) ?_); refine wpList_load_row rowT_rule V6.out rfl _ rfl rfl rfl ?_)
              | (go_at_call 23; refine HC.out.mono ?_; rintro e9 w7 ⟨rfl, b9⟩; have HBQ := hd (step_b HBQ.out b9); clear b9))
            go_roundw
            case rel => exact ⟨k + 1, by omega, by go_num, int_eq (by rw [HMX.out]; omega), HX, HBQ⟩
            case measure => simp [intOf]; omega
        · obtain rfl : k = n4 := by omega
          have HX := hd (show ansF s = .tuple #[.int .i64 (most0 s ((allT s).take k)), .int .i64 0] by
            rw [ans_yes, List.take_of_length_le (by rw [HN4.out]; exact Nat.le_refl _)]
            · rfl
            · rw [HOK.out, List.all_eq_true]
              intro r hr
              obtain ⟨i, hi, rfl⟩ := List.mem_iff_getElem.1 hr
              have := HA.out i (by rw [← HN4.out]; exact hi)
              rw [rulAt_mem hi] at this
              exact this)
          clear HA
          go_wp2_with fail
          go_ret2
          exact ⟨tuple_ret HX.out.symm, HB.out⟩
set_option maxRecDepth 100000 in
set_option maxHeartbeats 4000000 in
theorem check_any15 {w : World} {c : ScC} {s : SchT} (h : ScAt w c s) (hfit : ∀ r ∈ allT s, FitR r) : Calls Try.prog 11 #[.agg c.row] w (Still (.int .i64 (ansE s)) w) := by
  have hb : Below w.heap.size w (w.alloc (.cells c.row 30)) := (Below.refl _ _).alloc (Nat.le_refl _) _
  have hv := VarR.new w 30 c.row
  obtain ⟨W0, hW⟩ : ∃ W0, w.alloc (.cells c.row 30) = W0 := ⟨_, rfl⟩
  rw [hW] at hb hv
  have HC := hd (fills_any (h.later hb) hfit)
  have HW := hd hW
  have HB := hd hb
  have V1 := hd hv
  obtain ⟨X, hX⟩ : ∃ X, (if okSch s then (mostT s : Int) else 0) = X := ⟨_, rfl⟩
  obtain ⟨Y, hY⟩ : ∃ Y, (if okSch s then (0 : Int) else 12) = Y := ⟨_, rfl⟩
  unfold ansF at HC
  rw [hX, hY] at HC
  have HY := hd (show Y = ansE s from hY.symm)
  clear h hfit hb hv hW hX hY
  go_enter Try.func11, Try.ntmps11
  go_upto_region 1 with fail
  rw [HW.out]
  go_wp2_with (first
    | ((with_reducible refine gd_load (ty := 30) (x := .tmp 1) ?_); refine wpList_load_row rowT_sch V1.out rfl _ rfl rfl rfl ?_)
    | (go_at_call 9; refine HC.out.mono ?_; rintro e9 w1 ⟨rfl, b9⟩; have HB := hd (step_b HB.out b9); clear b9))
  go_ret
  exact ⟨ret_int HY.out, HB.out⟩

end Go.Proofs.Ytegaapeaeffgoaa
