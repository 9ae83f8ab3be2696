/- The chapter's example: an element of type p, with a bold leaf of a. -/
import Derived.Test.YtknkclbjocfhiaaDoorCWritten
import Derived.Test.YtknkclbjocfhiaaDoorNLefts
namespace Go.Proofs.YtknkclbjocfhiaaDoor
open Go.RowKit

set_option maxHeartbeats 1000000 in
theorem leafP_any (s : ByteArray) (l : List Int) (n : Nat) (hn : l.length = n) (hl : Conv.runesFrom s s.size 0 #[] = (rv l).toArray) (hsz : n ≤ 1000) (PA : Option Addr) (np pc : Nat) (w : World) :
    Calls Tryd.prog 22 #[.string s, .slice PA np pc] w fun e w' => ∃ (g c : Nat), e = .returned (.agg #[.bool true, .slice PA np pc, .slice (some ⟨g, 0, none⟩) n c, .slice none 0 0]) ∧ VL w' w'.heap.size (some ⟨g, 0, none⟩) (rv l) ∧ Below w.heap.size w w' ∧ n ≤ c := by
  obtain ⟨c, row, hcn, h1, h2⟩ := conv_lit s l n hn hl hsz
  obtain ⟨wb, hwb⟩ : ∃ wb, wb = w.alloc (.cells #[.bool false, .slice none 0 0, .slice none 0 0, .slice none 0 0] 26) := ⟨_, rfl⟩
  have h3 := h1 wb
  have h4 := h2 wb
  obtain ⟨C, hC⟩ : ∃ C, C = c wb := ⟨_, rfl⟩
  obtain ⟨R, hR⟩ : ∃ R, R = row wb := ⟨_, rfl⟩
  rw [← hC, ← hR] at h3
  rw [← hR] at h4
  have hs : wb.heap.size = w.heap.size + 1 := by rw [hwb]; simp
  rw [hs] at h3
  have H4 := hd h4
  have HCN := hd (show n ≤ C by rw [hC]; exact hcn _)
  clear hC hR h1 h2 h4 hl hn hs hcn
  subst hwb
  go_enter Tryd.func22, Tryd.ntmps22
  go_wp2
  refine bodyPost_ret (v := .agg #[.bool true, .slice PA np pc, .slice (some ⟨w.heap.size + 1, 0, none⟩) n C, .slice none 0 0]) (by simp [results, Tryd.results22, go_sem]) rfl ⟨w.heap.size + 1, C, rfl, ?_, ?_, HCN.out⟩
  · intro _
    refine ⟨w.heap.size + 1, 0, rfl, by simp, fun k u hk => ?_⟩
    show (((w.alloc _).alloc _).drew).cell? _ = _
    have e : ∀ o : Obj, ((w.alloc o).alloc (.cells R 21)).cell? ⟨w.heap.size + 1, 0 + k, none⟩ = R[0 + k]? := fun o => World.cell?_alloc_at _ _ _ _ (by simp)
    exact (e _).trans (by rw [Nat.zero_add]; exact H4.out k u hk)
  · exact (((Below.refl _ _).alloc (Nat.le_refl _) _).alloc (by simp) _).drew

def kBold : ByteArray := { data := #[98, 111, 108, 100] }
def vOne : ByteArray := { data := #[49] }
def vP : ByteArray := { data := #[112] }
/-- The example's tree. -/
def exC : NT := .mk false [(tyKey, vP)] [] [.mk true [(kBold, vOne)] [97] []]
set_option maxRecDepth 4000 in
theorem exC_chk1 : chk [(tyKey, vP)] = 0 := by decide +kernel
set_option maxRecDepth 4000 in
theorem exC_chk2 : chk [(kBold, vOne)] = 0 := by decide +kernel
set_option maxRecDepth 4000 in
theorem exC_check : checkT exC = 0 := by
  have hs : sizeT exC = 3 := by simp [exC, sizeT, sizeK]
  rw [checkT_small (by omega)]
  have hk : chkT (.mk true [(kBold, vOne)] [97] []) = 0 := by
    rw [chkT, if_neg, chkK]
    unfold oneE
    rw [if_neg (by rw [exC_chk2]; decide)]
    decide
  unfold exC
  rw [chkT, if_neg, chkK, if_neg (by rw [hk]; decide), chkK]
  unfold oneE
  rw [if_neg (by rw [exC_chk1]; decide)]
  decide
set_option maxRecDepth 4000 in
theorem exC_txt : txtT exC = [123, 116, 121, 112, 101, 58, 112, 125, 91, 123, 98, 111, 108, 100, 58, 49, 125, 34, 97, 34, 93] := by
  have e1 : escL 97 = [97] := by decide
  unfold exC
  simp only [txtT, txtK, propsT, prT, quoL, bodyL_cons, e1]
  rfl
set_option maxRecDepth 4000 in
theorem exC_print : bs (printS exC) = ⟨#[123, 116, 121, 112, 101, 58, 112, 125, 91, 123, 98, 111, 108, 100, 58, 49, 125, 34, 97, 34, 93]⟩ := by
  unfold printS
  rw [if_pos exC_check, exC_txt]; rfl
set_option maxRecDepth 4000 in
theorem exC_fit : FitT exC := by
  unfold exC
  simp [FitT, FitK]
set_option maxRecDepth 4000 in
theorem exC_few : fewB 200 exC = true := by
  refine few_of exC_fit (checkT_zero exC_check) (by omega) (by omega) ?_
  unfold exC
  simp [weighT, weighK]
set_option maxRecDepth 4000 in
theorem ex_wide2 : ∀ p ∈ [((kBold, vOne) : Pr)], p.1.size ≤ 9223372036854775807 ∧ p.2.size ≤ 9223372036854775807 := fun p hp => by
  rw [List.mem_singleton] at hp
  subst hp
  exact ⟨by show (4 : Nat) ≤ _; omega, by show (1 : Nat) ≤ _; omega⟩
set_option maxRecDepth 4000 in
theorem exC_node {w : World} {gp cp gq cq g1 c1 b : Nat} (hcp : 1 ≤ cp) (hcq : 1 ≤ cq) (hc1 : 1 ≤ c1) (hp : PL w w.heap.size (some ⟨gp, 0, none⟩) [(tyKey, vP)]) (hq : PL w w.heap.size (some ⟨gq, 0, none⟩) [(kBold, vOne)]) (h1 : VL w w.heap.size (some ⟨g1, 0, none⟩) (rv [97])) (hb : b < w.heap.size)
    (hc : ∀ j u, #[Value.bool true, .slice (some ⟨gq, 0, none⟩) 1 cq, .slice (some ⟨g1, 0, none⟩) 1 c1, .slice none 0 0][j]? = some u → w.cell? ⟨b, j, none⟩ = some u) :
    NodeAt 2 w w.heap.size (.agg #[.bool false, .slice (some ⟨gp, 0, none⟩) 1 cp, .slice none 0 0, .slice (some ⟨b, 0, none⟩) 1 1]) exC := by
  refine NodeAt.shut rfl rfl rfl hp (VL.nil _ _ _) ⟨⟨by simp, ex_wide⟩, by simp, by simp, by simp, by simpa using hcp, by simp, by simp⟩ (fun k m hk => ?_)
  match k, hk with
  | 0, hk =>
    simp at hk; subst hk
    exact ⟨b, 0, _, rfl, hb, NodeAt.shut rfl rfl rfl hq h1 ⟨⟨by simp, ex_wide2⟩, by simp, by simp, by simp, by simpa using hcq, by simpa using hc1, by simp⟩ (fun k m hk => by simp at hk), _, _, _, _, rfl, hc 0 _ rfl, hc 1 _ rfl, hc 2 _ rfl, hc 3 _ rfl⟩
  | k + 1, hk => simp at hk
set_option maxRecDepth 4000 in
theorem exC_props (w : World) : PL (w.alloc (.cells #[.string kBold, .string vOne] 50)) (w.heap.size + 1) (some ⟨w.heap.size, 0, none⟩) [(kBold, vOne)] := by
  intro _
  refine ⟨w.heap.size, 0, rfl, by omega, fun k hk => ?_⟩
  obtain rfl : k = 0 := by simp at hk; omega
  constructor <;> (rw [World.cell?_alloc_at _ _ _ _ rfl]; rfl)
set_option maxRecDepth 4000 in
theorem PL.later {w w' : World} {A : Option Addr} {l : List Pr} (h : PL w w.heap.size A l) (hb : Below w.heap.size w w') : PL w' w'.heap.size A l := (h.below hb).more hb.size

set_option maxRecDepth 4000 in
set_option maxHeartbeats 4000000 in
theorem live6_any (w : World) (hT : Hid (Tab w)) : Calls Tryd.prog 9 #[] w (Still (.bool true) w) := by
  obtain ⟨W1, hW1⟩ : ∃ W1, W1 = w.alloc (.cells #[.string kBold, .string vOne] 50) := ⟨_, rfl⟩
  have hq := exC_props w
  rw [← hW1] at hq
  have hz1 : W1.heap.size = w.heap.size + 1 := by rw [hW1]; simp
  have hb1 : Below w.heap.size w W1 := hW1 ▸ (Below.refl _ _).alloc (Nat.le_refl _) _
  have HC1 := hd (leafP_any { data := #[97] } [97] 1 rfl runes_a (by omega) (some ⟨w.heap.size, 0, none⟩) 1 1 W1)
  have HQ1 := hd (show PL W1 W1.heap.size _ _ from hz1 ▸ hq)
  have HB1 := hd hb1
  clear hq hb1
  unfold kBold vOne at hW1
  subst hW1
  go_enter Tryd.func9, Tryd.ntmps9
  go_wp2_with fail
  refine HC1.out.mono ?_
  rintro e w2 ⟨g1, c1, rfl, v1, b1, hc1⟩
  have hB2 := HB1.out.trans (b1.mono HB1.out.size)
  have HQ2 := hd (HQ1.out.later b1)
  have HB2 := hd hB2
  have HV2 := hd v1
  have hz2 := hB2.size
  obtain ⟨W3, hW3⟩ : ∃ W3, W3 = w2.alloc (.cells #[.bool true, .slice (some ⟨w.heap.size, 0, none⟩) 1 1, .slice (some ⟨g1, 0, none⟩) 1 c1, .slice none 0 0] 26) := ⟨_, rfl⟩
  have hb3 : Below w2.heap.size w2 W3 := hW3 ▸ (Below.refl _ _).alloc (Nat.le_refl _) _
  have HX3 := hd (hW3 ▸ boxAt w2 #[.bool true, .slice (some ⟨w.heap.size, 0, none⟩) 1 1, .slice (some ⟨g1, 0, none⟩) 1 c1, .slice none 0 0] 26)
  have hz3 : W3.heap.size = w2.heap.size + 1 := by rw [hW3]; simp
  have HC3 := hd (elem_p (some ⟨w2.heap.size, 0, none⟩) 1 1 W3)
  have HB3 := hd hb3
  clear hB2 v1 b1 hb3
  subst hW3
  go_wp2_with fail
  refine HC3.out.mono ?_
  rintro e w4 ⟨gp, cp, rfl, v4, b4, hcp⟩
  have hB24 : Below w2.heap.size w2 w4 := HB3.out.trans (b4.mono HB3.out.size)
  have hB4 : Below w.heap.size w w4 := HB2.out.trans (hB24.mono hz2)
  have hz4 := b4.size
  have hX4 := (b4.block _ (by omega)).trans HX3.out
  have hN : NodeAt 2 w4 w4.heap.size (.agg #[.bool false, .slice (some ⟨gp, 0, none⟩) 1 cp, .slice none 0 0, .slice (some ⟨w2.heap.size, 0, none⟩) 1 1]) exC :=
    exC_node hcp (Nat.le_refl _) hc1 v4 (HQ2.out.later hB24) (HV2.out.later hB24) (by omega) (fun j u hj => by rw [Lib.cell_of_heap hX4]; exact hj)
  have HC4 := hd (print_any 2 w4 _ exC (hd (hT.out.below hB4)) hN exC_few)
  have HB4 := hd hB4
  clear hX4 hN v4 b4 hB24 hB4
  go_wp2_with fail
  refine HC4.out.mono ?_
  intro e w5 h5
  obtain ⟨he, hb5⟩ := h5
  rw [exC_print, exC_check] at he
  subst he
  go_wp2
  go_ret
  exact ⟨rfl, HB4.out.trans (hb5.mono HB4.out.size)⟩

end Go.Proofs.YtknkclbjocfhiaaDoor
