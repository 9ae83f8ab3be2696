/- The chapter's example: an element with two leaves of a and bc has the size 6. -/
import Derived.Test.YtknkclbjocfhiaaDoorNLeft
import Derived.Laws.IdiomStrings
namespace Go.Proofs.YtknkclbjocfhiaaDoor
open Go.RowKit

theorem conv_lit (s : ByteArray) (l : List Int) (n : Nat) (hn : l.length = n) (hl : Conv.runesFrom s s.size 0 #[] = (rv l).toArray) (hsz : n ≤ 1000) : ∃ (c : World → Nat) (row : World → Array Value), (∀ w, n ≤ c w) ∧
    (∀ w, (convert 9 23 (.string s)).run Tryd.prog w = .ok (.slice (some ⟨w.heap.size, 0, none⟩) n (c w)) (w.drew.alloc (.cells (row w) 21))) ∧ ∀ (w : World) (k : Nat) (u : Value), (rv l)[k]? = some u → (row w)[k]? = some u := by
  subst hn
  refine ⟨fun w => grownCap w l.length 0 21, fun w => (rv l).toArray ++ Array.replicate (grownCap w l.length 0 21 - l.length) (.int .i32 0), fun w => grownCap_ge w _ _ _, fun w => ?_, fun w k u h => ?_⟩
  · have h := run_runes_of_string w 9 23 21 s Tryd.underlying9 Tryd.underlying23 Tryd.underlying21 (by rw [hl]; simp [rv]; omega)
    rw [hl] at h
    simpa [rv] using h
  · have hk : k < (rv l).length := (List.getElem?_eq_some_iff.1 h).1
    rw [Array.getElem?_append_left (by simpa using hk)]
    simpa using h

set_option maxRecDepth 4000 in
set_option maxHeartbeats 1000000 in
theorem leaf_any (s : ByteArray) (l : List Int) (n : Nat) (hn : l.length = n) (hl : Conv.runesFrom s s.size 0 #[] = (rv l).toArray) (hsz : n ≤ 1000) (w : World) :
    Calls Tryd.prog 22 #[.string s, .slice none 0 0] w fun e w' => ∃ (g c : Nat), e = .returned (.agg #[.bool true, .slice none 0 0, .slice (some ⟨g, 0, none⟩) n c, .slice none 0 0]) ∧ VL w' w'.heap.size (some ⟨g, 0, none⟩) (rv l) ∧ Below w.heap.size w w' ∧ n ≤ c := by
  obtain ⟨c, row, hcn, h1, h2⟩ := conv_lit s l n hn hl hsz
  obtain ⟨wb, hwb⟩ : ∃ wb, wb = w.alloc (.cells #[.bool false, .slice none 0 0, .slice none 0 0, .slice none 0 0] 26) := ⟨_, rfl⟩
  have h3 := h1 wb
  have h4 := h2 wb
  obtain ⟨C, hC⟩ : ∃ C, C = c wb := ⟨_, rfl⟩
  obtain ⟨R, hR⟩ : ∃ R, R = row wb := ⟨_, rfl⟩
  rw [← hC, ← hR] at h3
  rw [← hR] at h4
  have hs : wb.heap.size = w.heap.size + 1 := by rw [hwb]; simp
  rw [hs] at h3
  have H4 := hd h4
  have HCN := hd (show n ≤ C by rw [hC]; exact hcn _)
  clear hC hR h1 h2 h4 hl hn hs hcn
  subst hwb
  go_enter Tryd.func22, Tryd.ntmps22
  go_wp2
  refine bodyPost_ret (v := .agg #[.bool true, .slice none 0 0, .slice (some ⟨w.heap.size + 1, 0, none⟩) n C, .slice none 0 0]) (by simp [results, Tryd.results22, go_sem]) rfl ⟨w.heap.size + 1, C, rfl, ?_, ?_, HCN.out⟩
  · intro _
    refine ⟨w.heap.size + 1, 0, rfl, by simp, fun k u hk => ?_⟩
    show (((w.alloc _).alloc _).drew).cell? _ = _
    have e : ∀ o : Obj, ((w.alloc o).alloc (.cells R 21)).cell? ⟨w.heap.size + 1, 0 + k, none⟩ = R[0 + k]? := fun o => World.cell?_alloc_at _ _ _ _ (by simp)
    exact (e _).trans (by rw [Nat.zero_add]; exact H4.out k u hk)
  · exact (((Below.refl _ _).alloc (Nat.le_refl _) _).alloc (by simp) _).drew

set_option maxRecDepth 4000 in
theorem runes_a : Conv.runesFrom { data := #[97] } (ByteArray.size { data := #[97] }) 0 #[] = (rv [97]).toArray := by kernel_rfl
set_option maxRecDepth 4000 in
theorem runes_bc : Conv.runesFrom { data := #[98, 99] } (ByteArray.size { data := #[98, 99] }) 0 #[] = (rv [98, 99]).toArray := by kernel_rfl

set_option maxRecDepth 4000 in
set_option maxHeartbeats 1000000 in
theorem elem_p (KA : Option Addr) (nk kc : Nat) (w : World) :
    Calls Tryd.prog 21 #[.string { data := #[112] }, .slice KA nk kc] w fun e w' => ∃ (g c : Nat), e = .returned (.agg #[.bool false, .slice (some ⟨g, 0, none⟩) 1 c, .slice none 0 0, .slice KA nk kc]) ∧ PL w' w'.heap.size (some ⟨g, 0, none⟩) [(tyKey, { data := #[112] })] ∧ Below w.heap.size w w' ∧ 1 ≤ c := by
  go_enter Tryd.func21, Tryd.ntmps21
  go_wp2
  refine bodyPost_ret (v := .agg #[.bool false, .slice (some ⟨w.heap.size + 1 + 1, 0, none⟩) 1 1, .slice none 0 0, .slice KA nk kc]) (by simp [results, Tryd.results21, go_sem]) rfl ⟨w.heap.size + 1 + 1, 1, rfl, ?_, ?_, Nat.le_refl _⟩
  · intro _
    refine ⟨w.heap.size + 1 + 1, 0, rfl, by simp, fun k hk => ?_⟩
    obtain rfl : k = 0 := by simp at hk; omega
    constructor <;> (rw [World.cell?_alloc_at _ _ _ _ (by simp)]; rfl)
  · exact (((Below.refl _ _).alloc (Nat.le_refl _) _).alloc (by simp) _).alloc (by simp; omega) _

def exT : NT := .mk false [(tyKey, { data := #[112] })] [] [.mk true [] [97] [], .mk true [] [98, 99] []]
set_option maxRecDepth 4000 in
theorem exT_size : wrap64 (sizeT exT) = 6 := by simp [exT, sizeT, sizeK, wrap64]
set_option maxRecDepth 4000 in
theorem ex_leaf {w : World} {g n c : Nat} {l : List Int} (hl : l.length = n) (hn : n ≤ 1000) (hc : n ≤ c) (h : VL w w.heap.size (some ⟨g, 0, none⟩) (rv l)) : NodeAt 1 w w.heap.size (.agg #[.bool true, .slice none 0 0, .slice (some ⟨g, 0, none⟩) n c, .slice none 0 0]) (.mk true [] l []) := by
  subst hl
  exact NodeAt.shut rfl rfl rfl (PL.nil _ _ _) h ⟨⟨by simp, by simp⟩, by simp, by omega, by simp, by simp, hc, by simp⟩ (fun k m hk => by simp at hk)
set_option maxRecDepth 4000 in
theorem ex_wide : ∀ p ∈ [((tyKey, { data := #[112] }) : Pr)], p.1.size ≤ 9223372036854775807 ∧ p.2.size ≤ 9223372036854775807 := fun p hp => by
  rw [List.mem_singleton] at hp
  subst hp
  exact ⟨by show (4 : Nat) ≤ _; omega, by show (1 : Nat) ≤ _; omega⟩
set_option maxRecDepth 4000 in
theorem ex_node {w : World} {gp cp g1 c1 g2 c2 b : Nat} (hcp : 1 ≤ cp) (hc1 : 1 ≤ c1) (hc2 : 2 ≤ c2) (hp : PL w w.heap.size (some ⟨gp, 0, none⟩) [(tyKey, { data := #[112] })]) (h1 : VL w w.heap.size (some ⟨g1, 0, none⟩) (rv [97])) (h2 : VL w w.heap.size (some ⟨g2, 0, none⟩) (rv [98, 99])) (hb : b < w.heap.size)
    (hc : ∀ j u, #[Value.bool true, .slice none 0 0, .slice (some ⟨g1, 0, none⟩) 1 c1, .slice none 0 0, .bool true, .slice none 0 0, .slice (some ⟨g2, 0, none⟩) 2 c2, .slice none 0 0][j]? = some u → w.cell? ⟨b, j, none⟩ = some u) :
    NodeAt 2 w w.heap.size (.agg #[.bool false, .slice (some ⟨gp, 0, none⟩) 1 cp, .slice none 0 0, .slice (some ⟨b, 0, none⟩) 2 2]) exT := by
  refine NodeAt.shut rfl rfl rfl hp (VL.nil _ _ _) ⟨⟨by simp, ex_wide⟩, by simp, by simp, by simp, by simpa using hcp, by simp, by simp⟩ (fun k m hk => ?_)
  match k, hk with
  | 0, hk =>
    simp at hk; subst hk
    exact ⟨b, 0, _, rfl, hb, ex_leaf rfl (by simp) hc1 h1, _, _, _, _, rfl, hc 0 _ rfl, hc 1 _ rfl, hc 2 _ rfl, hc 3 _ rfl⟩
  | 1, hk =>
    simp at hk; subst hk
    exact ⟨b, 0, _, rfl, hb, ex_leaf rfl (by simp) hc2 h2, _, _, _, _, rfl, hc 4 _ rfl, hc 5 _ rfl, hc 6 _ rfl, hc 7 _ rfl⟩
  | k + 2, hk => simp at hk

set_option maxRecDepth 4000 in
theorem ex_below {w w' : World} {o : Obj} (h : Below (w.alloc o).heap.size (w.alloc o) w') : Below w.heap.size w w' := ((Below.refl _ _).alloc (Nat.le_refl _) _).trans (h.mono (by simp))
set_option maxRecDepth 4000 in
theorem ex_lt {w w' : World} {o : Obj} (h : Below (w.alloc o).heap.size (w.alloc o) w') : w.heap.size < w'.heap.size := by have := h.size; simp at this; omega

end Go.Proofs.YtknkclbjocfhiaaDoor
