/- The comparison that the sort is handed tells which key stands ahead; the library's sort lays a row of properties in that order. -/
import Derived.Test.YtggbafkeogccjaaRow
import Derived.Test.YtggbafkeogccjaaLay
import Derived.Lib.Bytealg
import Derived.Shelf.SlSortCmp.WholeK
namespace Go.Proofs.Ytggbafkeogccjaa
open Go.RowKit Go.Sort Go.Shelf

/-- What the comparison tells. -/
def cmpP (x y : Pr) : Int := Lib.compareBytes x.1.data.toList y.1.data.toList
theorem cmp_less : ∀ a b : List UInt8, decide (Lib.compareBytes a b < 0) = Op.bytesLess a b
  | [], [] => rfl
  | [], _ :: _ => rfl
  | _ :: _, [] => rfl
  | a :: x, b :: y => by
    rw [Lib.compareBytes, Op.bytesLess, ← cmp_less x y]
    by_cases h1 : a < b
    · simp [h1]
    · by_cases h2 : b < a
      · have : a ≠ b := fun e => by subst e; exact UInt8.lt_irrefl _ h2
        simp [h1, h2, this]
      · have : a = b := UInt8.le_antisymm (UInt8.not_lt.1 h2) (UInt8.not_lt.1 h1)
        subst this
        simp [h1]
theorem ltOf_cmpP : ltOf cmpP = ltK := by
  funext x y
  unfold ltOf cmpP ltK
  rw [cmp_less, ByteArray.toList_eq, ByteArray.toList_eq]
theorem swoP : SWO (ltOf cmpP) := by
  rw [ltOf_cmpP]
  exact ⟨ltK_irrefl, ltK_trans, ltK_ntrans⟩

set_option maxHeartbeats 1000000 in
theorem compareString_any (a b : ByteArray) (w : World) :
    Calls Try.prog 40 #[.string a, .string b] w fun e w' => e = .returned (.int .i64 (Lib.compareBytes a.data.toList b.data.toList)) ∧ w' = w := by
  go_enter Try.func40, Try.ntmps40
  go_wp2
  rw [run_callFunc_extern Try.func51 (by kernel_rfl) (by kernel_rfl) (by kernel_rfl) (e := Extern.BytealgCompare.compare) (by kernel_rfl), Lib.run_compareString]
  simp only [Result.andThen]
  rw [Oper.upon_value]
  go_wp2
  go_ret
  exact ⟨rfl, rfl⟩
theorem compare_any (a b : ByteArray) (w : World) :
    Calls Try.prog 37 #[.string a, .string b] w fun e w' => e = .returned (.int .i64 (Lib.compareBytes a.data.toList b.data.toList)) ∧ w' = w := by
  go_enter Try.func37, Try.ntmps37
  go_wp2_with (go_at_call 40; refine (compareString_any _ _ _).mono ?_; rintro e w' ⟨rfl, rfl⟩)
  go_ret
  exact ⟨rfl, rfl⟩
set_option maxHeartbeats 1000000 in
theorem closure_any (x y : Pr) (W : World) : Calls Try.prog 36 #[.agg #[.string x.1, .string x.2], .agg #[.string y.1, .string y.2]] W fun e w' => e = .returned (.int .i64 (cmpP x y)) ∧ ∃ q os', w' = grow (W.drewN q) os' := by
  have hcon := fun W' => hd (compare_any x.1 y.1 W')
  unfold cmpP
  generalize Lib.compareBytes x.1.data.toList y.1.data.toList = r at hcon ⊢
  go_enter Try.func36, Try.ntmps36
  go_wp2_with (go_at_call 37; refine (hcon _).out.mono ?_; rintro e w' ⟨rfl, rfl⟩)
  go_ret
  exact ⟨rfl, 0, _, by rw [alloc_eq_grow, alloc_eq_grow, grow_grow]; rfl⟩
theorem cmpLaysP (blk off size : Nat) (w : World) : CmpLays Try.prog 36 #[] encP 2 cmpP blk off size w := fun _ _ _ _ x y => closure_any x y _

/-- A permutation in which no later one stands ahead is the sorted form. -/
theorem sorted_is (l : List Pr) (hA : Apart l) (d : Array Pr) (hp : PermIn 0 l.toArray.size l.toArray d) (hs : SortedIn (ltOf cmpP) 0 l.toArray.size d) : d = (srt l).toArray := by
  obtain ⟨h1, _, h3⟩ := hp
  have e1 : d.extract 0 l.toArray.size = d := by rw [← h1]; simp
  have e2 : l.toArray.extract 0 l.toArray.size = l.toArray := by simp
  rw [e1, e2] at h3
  have hperm : d.toList.Perm l := by simpa using h3
  have hap : Apart d.toList := (hperm.pairwise_iff (R := fun p q : Pr => p.1 ≠ q.1) (fun {a b} hab => Ne.symm hab)).2 hA
  have hr : Rising d.toList := by
    unfold Rising
    rw [List.pairwise_iff_getElem]
    intro i j hi hj hij
    have hd : d.size = l.length := by simpa using h1
    have hs' := hs i j (Nat.zero_le _) hij (by rw [← h1]; simpa using hj)
    rw [ltOf_cmpP, getElem!_pos d j (by simpa using hj), getElem!_pos d i (by simpa using hi)] at hs'
    have hne := List.pairwise_iff_getElem.1 hap i j hi hj hij
    cases h : ltK d.toList[i] d.toList[j]
    · exact absurd (ltK_total _ _ h hs') hne
    · rfl
  have := srt_of hr hperm
  rw [← this]

/-- The library's sort of a row of properties. -/
theorem sort_any (g cap : Nat) (l : List Pr) (w : World) (hH : HoldsK encP 2 w g 0 l.toArray) (hg : g < w.heap.size) (hl : l.length < 4611686018427387904) (hA : Apart l) :
    Calls Try.prog 35 #[.slice (some ⟨g, 0, none⟩) l.length cap, .func (.func 36) #[] #[]] w fun e w' => e = .returned (.tuple #[]) ∧ ∃ n os, w' = sortWorldK encP 2 w g 0 n (srt l).toArray os := by
  have eg : ∀ args w, (callFunc 36 args).run Try.prog w = .ok (.enter 36 args) w := enters_of Try.func36 (by kernel_rfl) rfl
  have h := AnyQ.slices_SortFunc sortPr 2 Try.isAgg36 Try.sizeOf36 encP (fun _ => rfl) (fun x v hv => by simp [encP] at hv; rcases hv with rfl | rfl <;> rfl) cmpP swoP 36 #[] g 0 cap l.toArray w eg (cmpLaysP g 0 l.toArray.size w) hH hg (by simpa using hl)
  exact h.mono fun e w' ⟨he, d', n, os, hp, hs, hw⟩ => ⟨he, n, os, by rw [hw, sorted_is l hA d' hp hs]⟩

end Go.Proofs.Ytggbafkeogccjaa
