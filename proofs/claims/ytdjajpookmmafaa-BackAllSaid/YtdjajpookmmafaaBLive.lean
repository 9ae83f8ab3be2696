/- The chapter's example. -/
import Derived.Test.YtdjajpookmmafaaBRInv
import Derived.Test.YtdjajpookmmafaaBFew
namespace Go.Proofs.Ytdjajpookmmafaa
open Go.RowKit

def exO (k x : Int) : OpP := { zeroO with k := k, q := [x], z := 3 }
set_option maxRecDepth 4000 in
theorem ex_inv : invO (exO 4 0) = (exO 3 1, 0) := by
  have h : formE (exO 4 0) = 0 := form_of rfl rfl
  unfold invO
  rw [if_pos h]
  rfl
set_option maxRecDepth 4000 in
theorem ex_tiny (k x : Int) : Tiny (exO k x) := by constructor <;> simp [exO, zeroO, zeroS]
set_option maxRecDepth 4000 in
theorem ex_at {W : World} {A : Option Addr} {k x : Int} (hk : In64 k) (hx : In64 x) (h : IL W W.heap.size A [x]) : OkA W (OC.mk k A 1 1 none 0 0 3 false none 0 0 none 0 0 none 0 0 none 0 0 none 0 0 none 0 0 false none 0 0 0 none 0 0 0 false none 0 0 0 none 0 0 0) (exO k x) :=
  (((OkA.zero W).setK hk).setQ (l := [x]) (n := 1) (d := 1) rfl (by omega) (by omega) h (fun j hj => by
    obtain rfl : j = 0 := by simp at hj; omega
    exact ⟨hx.2, hx.1⟩)).setZ 3
set_option maxRecDepth 100000 in
set_option maxHeartbeats 4000000 in
theorem live11_any (w : World) : Calls Try.prog 9 #[] w (Still (.bool true) w) := by
  have HI := hd (show Calls Try.prog 11 #[.agg (OC.row (OC.mk 4 (some ⟨w.heap.size, 0, none⟩) 1 1 none 0 0 3 false none 0 0 none 0 0 none 0 0 none 0 0 none 0 0 none 0 0 false none 0 0 0 none 0 0 0 false none 0 0 0 none 0 0 0))] (w.alloc (.cells #[.int .i64 0] 3)) (NewOES (w.alloc (.cells #[.int .i64 0] 3)) (exO 3 1, 0)) from by
    have h := inverse_at _ _ (exO 4 0) (ex_at (k := 4) (by unfold In64; omega) (by unfold In64; omega) (il_one w 0 3)) (ex_tiny _ _)
    rw [ex_inv] at h
    exact h)
  have HE := hd (eqO_self (exO 3 1))
  go_enter Try.func9, Try.ntmps9
  go_wp2_with (first
    | (go_at_call 11; refine Calls.mono HI.out ?_; rintro e w5 ⟨cx, rfl, hs5, b5⟩; have HX := hd (hs5.now); have HB := hd ((new_below w _).trans (b5.mono (new_below w _).size)); clear hs5 b5)
    | ((with_reducible refine gd_store (ty := 35) (x := .tmp 1) ?_); refine wpList_store_oc (c := cx) _ _ rfl rfl rfl rfl rfl rfl rfl ?_; have hb9 := new_below w5 (.cells (OC.row cx) 35); have HVX := hd (VarO.new w5 cx); have HX := hd (HX.out.later hb9); have HB := hd (step_b HB.out hb9); clear hb9)
    | ((with_reducible refine gd_loadg (ty := 35) (x := .tmp 1) ?_); refine wpList_load_ocg HVX.out _ rfl (by rfl) rfl ?_)
    | (go_at_call 13; refine Calls.mono (rsameop_at (d := (OC.mk 3 (some ⟨w5.heap.size + 1, 0, none⟩) 1 1 none 0 0 3 false none 0 0 none 0 0 none 0 0 none 0 0 none 0 0 none 0 0 false none 0 0 0 none 0 0 0 false none 0 0 0 none 0 0 0)) (HX.out.later (new_below _ _)) (ex_at (k := 3) (by unfold In64; omega) (by unfold In64; omega) (by have h := il_one (w5.alloc (.cells (OC.row cx) 35)) 1 3; simpa using h)) (ex_tiny _ _) (ex_tiny _ _) HE.out) ?_; rintro e w9 ⟨rfl, b9⟩; have HB := hd (step_b HB.out ((new_below _ _).trans (b9.mono (new_below _ _).size))); clear b9))
  go_ret
  exact ⟨rfl, HB.out⟩

end Go.Proofs.Ytdjajpookmmafaa
