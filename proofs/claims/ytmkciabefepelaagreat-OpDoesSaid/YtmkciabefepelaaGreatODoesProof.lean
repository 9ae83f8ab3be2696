/- OpDoes holds: for every tree, every selection and every operation it answers true, and all read afterwards as they read before; no condition. -/
import Derived.Test.YtmkciabefepelaaGreatJBOpen
import Derived.Test.YtmkciabefepelaaGreatJOLiveP
import Derived.Test.YtmkciabefepelaaGreatRows
import Derived.Carry
set_option maxRecDepth 4000
namespace Go.Proofs.YtmkciabefepelaaGreat
open Go.ChangeShapes Go.WideShapes Go.ChangeAt Go.RowKit
set_option maxRecDepth 100000 in
theorem kQy (os : Os) (started : os.Started) (H : Type) (enc : TypeId × Value -> H) :
  ReturnsInHanded {} Tryz.checked os 3 .any (Rows.opDoesSpec.pre6 enc Tryz.prog Tryz.f3 Rows.opDoesRow.domain false) (Rows.opDoesSpec.post enc Tryz.prog Tryz.f3 false true false false) := by
 refine returnsInHanded_of_change_sized (C := Tryz.checked) own started (by kernel_rfl) Tryz.func3
  (ChangeSpec.witness6 (enc := enc) (C := Tryz.checked) false ⟨#[], #[.agg #[.bool false, .slice none 0 0, .slice none 0 0, .slice none 0 0], .agg #[.bool false, .slice none 0 0, .int .i64 0, .slice none 0 0, .int .i64 0], .agg #[.int .i64 0, .slice none 0 0, .slice none 0 0, .int .i64 0, .bool false, .slice none 0 0, .slice none 0 0, .slice none 0 0, .slice none 0 0, .slice none 0 0, .slice none 0 0, .bool false, .slice none 0 0, .int .i64 0, .slice none 0 0, .int .i64 0, .bool false, .slice none 0 0, .int .i64 0, .slice none 0 0, .int .i64 0]], []⟩ 8 (by kernel_rfl) (by kernel_rfl) (by kernel_rfl) (by kernel_rfl)) ?_
 intro W base args ds gs before om hW _ hsz _
 have hval : ∀ (j : Nat) t v, Tryz.f3.params[j]? = some t -> args[j]? = some v -> Value.okWide Tryz.prog W .any base t v := om
 have hW' := hW
 obtain ⟨p, q, y8, hV, rfl, _, _⟩ := hW
 have hA : DataW.TrodAll enc Tryz.prog W 0 (fun _ => true) true Tryz.f3.params.toList args.toList ds p := y8
 rw [Tryz.params3] at hA hval
 obtain ⟨v0, v1, v2, d0, d1, d2, p0, p1, p2, rfl, rfl, rfl, h0, h1, h2⟩ := trodAll_three hA
 obtain ⟨rfl, rfl⟩ := trodVars_none hV
 clear y8 om
 simp only [List.append_nil] at hW'
 have hlt : ∀ x ∈ p0 ++ p1 ++ p2, x.block < W.heap.size := fun x hx => by simpa using hW'.lt x (by simpa using hx)
 have k0 : ∀ W', Below W.heap.size W W' -> DataW.Trod enc Tryz.prog W' 0 (fun b => decide (b < W.heap.size)) true 26 v0 d0 p0 := fun W' hb =>
  Below.trod zEn (by kernel_rfl) (of_decide_eq_true (by kernel_rfl)) h0 hb fun x hx => hlt x (by simp [hx])
 have k1 : ∀ W', Below W.heap.size W W' -> DataW.Trod enc Tryz.prog W' 0 (fun b => decide (b < W.heap.size)) true 33 v1 d1 p1 := fun W' hb =>
  Below.trod zEn (by kernel_rfl) (of_decide_eq_true (by kernel_rfl)) h1 hb fun x hx => hlt x (by simp [hx])
 have k2 : ∀ W', Below W.heap.size W W' -> DataW.Trod enc Tryz.prog W' 0 (fun b => decide (b < W.heap.size)) true 35 v2 d2 p2 := fun W' hb =>
  Below.trod zEn (by kernel_rfl) (of_decide_eq_true (by kernel_rfl)) h2 hb fun x hx => hlt x (by simp [hx])
 have w0 : ∀ n ∈ d0.weights Tryz.prog 26, n <= reachBytes := fun n hn => by
  have := List.all_eq_true.1 hsz n (DataW.weights_mem_each (j := 0) rfl rfl n hn)
  simpa using this
 have w2 : ∀ n ∈ d2.weights Tryz.prog 35, n <= reachBytes := fun n hn => by
  have := List.all_eq_true.1 hsz n (DataW.weights_mem_each (j := 2) rfl rfl n hn)
  simpa using this
 obtain ⟨f0, n0, q0, s0, t0⟩ := zJi (hval 0 26 v0 rfl rfl) h0 w0
 obtain ⟨c0, rfl, hn0⟩ := zFo q0
 obtain ⟨b1, A1, c1, B1, e1, l1, wn, rfl, m1, o1, q1, g1, Cq, r1⟩ := zLh (hval 1 33 v1 rfl rfl) h1
 obtain ⟨c2, a2, rfl, Cr⟩ := zGs (hval 2 35 v2 rfl rfl) h2 w2
 refine (kTn (s := ⟨b1, A1, l1.1.length, c1, l1.2, B1, wn.1.length, e1, wn.2⟩) hn0 (show zB1 W _ ⟨b1, l1, wn⟩ from ⟨rfl, rfl, rfl, rfl, rfl, o1, Cq, m1, g1, q1, r1⟩) Cr).mono fun e W' ⟨he, hb⟩ => ?_
 subst he
 refine ⟨_, rfl, _, _, _, [], p0 ++ p1 ++ p2, [], hW', ?_, ?_, rfl, hb.frame _, fun h => by cases h⟩
 ·exact trodAll_mk1 (shut_bool Tryz.underlying4 true)
 ·rw [List.append_assoc]
  exact trodAll_mk3 (k0 _ hb) (k1 _ hb) (k2 _ hb)
theorem opDoes_holds : Rows.OpDoesSaid :=
 OpenClaim.holds_of_wide 3 Tryz.f3 rfl rfl rfl rfl rfl rfl rfl ⟨rfl, rfl, rfl, rfl, rfl⟩ rfl rfl rfl rfl rfl (by kernel_rfl) Tryz.func3 (by kernel_rfl)
  (of_decide_eq_true (by kernel_rfl)) (by unfold Func.isWrapper; first | (rw [if_pos (by decide +kernel)]; kernel_rfl) | (rw [if_neg (by decide +kernel)]; exact ⟨rfl, rfl⟩))
  (fun os started H enc _ => kQy os started H enc)
#print axioms opDoes_holds
end Go.Proofs.YtmkciabefepelaaGreat
