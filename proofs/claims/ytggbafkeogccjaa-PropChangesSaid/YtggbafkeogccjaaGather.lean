/- gather lays a list's properties into a new map; has tells whether one is in a map. -/
import Derived.Test.YtggbafkeogccjaaMaps
namespace Go.Proofs.Ytggbafkeogccjaa
open Go.RowKit Go.WideMaps Go.Maps

theorem take_more (l : List Pr) (n : Nat) (hn : n < l.length) : l.take (n + 1) = l.take n ++ [((prAt l n).1, (prAt l n).2)] := by
  rw [List.take_succ_eq_append_getElem hn, prAt_eq l n hn]
theorem fresh_at (l : List Pr) (hA : Apart l) (n : Nat) (hn : n < l.length) : getF (l.take n) (prAt l n).1 = none := by
  rw [getF_none]
  intro p hp e
  obtain ⟨j, hj, rfl⟩ := List.mem_iff_getElem.1 hp
  rw [List.length_take] at hj
  rw [List.getElem_take, prAt_eq l n hn] at e
  exact List.pairwise_iff_getElem.1 hA j n (by omega) hn (by omega) e

theorem OwnM.put {b : Nat} {l l' : List Pr} {D : DataW Unit} {k v : ByteArray} {n : Nat} {w1 : World} (hIs : MapIs D l) (hT : Tidy D) (hn : getF l k = none) (hl : l' = l ++ [(k, v)])
    (h1 : w1.ownsMap Try.prog 9 (plainElem Try.prog 9) b n (D.put (kl k) (.lit (.string v.data.toList)))) : OwnM w1 b l' := by
  subst hl
  have hP := hIs.put hT k v hn
  exact ⟨_, by have := ownsMap_tight h1; rwa [hP.2.2.1] at this, hP⟩

set_option maxHeartbeats 1000000 in
theorem gather_any (A : Option Addr) (l : List Pr) (c : Nat) (w : World) (hF : Fit l) (hA : Apart l) (hp : PL w w.heap.size A l) :
    Calls Try.prog 27 #[.slice A l.length c] w fun e w' => e = .returned (.map (some w.heap.size)) ∧ OwnM w' w.heap.size l ∧ Below w.heap.size w w' := by
  have hl60 := hF.1
  have HA := hd hA
  have HF := hd hF
  have HP := hd hp
  clear hA hF hp
  have hmm := fun (n : Int) (W : World) => run_makeMap_hint (P := Try.prog) 42 9 9 .i64 n Try.underlying42 W
  have hst := OwnM.made w
  go_enter Try.func27, Try.ntmps27
  go_wp2
  clear hmm
  go_loopw [11] (fun i wr => ∃ n : Nat, n ≤ l.length ∧ i = .int .i64 n ∧ OwnM wr w.heap.size (l.take n) ∧ Below w.heap.size w wr) (fun i _ => l.length - (intOf i).toNat)
  case atStart => exact ⟨0, Nat.zero_le _, rfl, hst, (Below.refl _ _).alloc (Nat.le_refl _) _⟩
  case round =>
    clear hst
    obtain ⟨n, hn, rfl, hM, hb⟩ := hrel
    by_cases hlt : n < l.length
    · obtain ⟨b, o, rfl, hlb, c1, c2⟩ := (HP.out.below hb).at_ hlt
      obtain ⟨s1, s2⟩ := HF.out.at_ hlt
      have HN := hd (fresh_at l HA.out n hlt)
      have HT := hd (take_more l n hlt)
      obtain ⟨D, hown, hIs⟩ := hM
      have HIs := hd hIs
      have HTi := hd (hown.tidy law9)
      clear hIs
      have m0 : Hid ((l.take n).length < maxLen) := hd (by rw [List.length_take]; unfold maxLen; omega)
      have m1 : Hid ((prAt l n).1.size ≤ maxLen) := hd (by unfold maxLen; omega)
      have m2 : Hid ((prAt l n).2.size ≤ maxLen) := hd (by unfold maxLen; omega)
      go_wp2_with (first | (at_mapUpdate; refine wpList_mapUpdate_own _ rfl _ _ _ 42 rfl 9 9 law9 Try.underlying42 _ w.heap.size _ _ rfl (hown.alloc _) m0.out _ _ _ rfl rfl (keyOf_string_mk Try.underlying9 m1.out) _ [] (plainElem_string Try.underlying9 m2.out) ?_; intro w1 hown1 hg1))
      have hM1 := OwnM.put HIs.out HTi.out HN.out HT.out hown1
      have hb1 := (hb.alloc hb.size _).grown hg1 (by simpa using Nat.le_succ_of_le hb.size) (fun j hj => by cases hj; exact Nat.le_refl _)
      clear hown1 hg1 HIs HTi hown
      go_roundw
      case rel => exact ⟨n + 1, by omega, by go_num, hM1, hb1⟩
      case measure => simp [intOf]; omega
    · have hM1 : OwnM wr w.heap.size l := by rw [List.take_of_length_le (by omega)] at hM; exact hM
      clear hM
      go_wp2
      go_ret
      exact ⟨rfl, hM1, hb⟩

end Go.Proofs.Ytggbafkeogccjaa
