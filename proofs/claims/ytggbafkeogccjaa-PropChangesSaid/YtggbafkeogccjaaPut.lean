/- The document's put lays one property ahead of the first whose key is greater. -/
import Derived.Test.YtggbafkeogccjaaAppend
namespace Go.Proofs.Ytggbafkeogccjaa
open Go.RowKit

def ins (p : Pr) : List Pr → List Pr
  | [] => [p]
  | x :: r => if ltK p x = true then p :: x :: r else x :: ins p r
theorem ins_none (p : Pr) : ∀ a : List Pr, (∀ x ∈ a, ltK p x = false) → ins p a = a ++ [p]
  | [], _ => rfl
  | x :: r, h => by
    rw [ins, h x (by simp), if_neg (by simp), ins_none p r (fun y hy => h y (by simp [hy]))]; rfl
theorem ins_hit (p x : Pr) : ∀ a : List Pr, (∀ y ∈ a, ltK p y = false) → ltK p x = true → ins p (a ++ [x]) = a ++ [p] ++ [x]
  | [], _, hx => by rw [List.nil_append, ins, if_pos hx]; rfl
  | y :: r, h, hx => by
    rw [List.cons_append, ins, h y (by simp), if_neg (by simp), ins_hit p x r (fun z hz => h z (by simp [hz])) hx]; rfl
theorem ins_more (p : Pr) (b : List Pr) : ∀ a : List Pr, (∃ x ∈ a, ltK p x = true) → ins p (a ++ b) = ins p a ++ b
  | [], h => by obtain ⟨x, hx, _⟩ := h; cases hx
  | y :: r, h => by
    rw [List.cons_append, ins, ins]
    cases hy : ltK p y
    · rw [if_neg (by simp), if_neg (by simp), ins_more p b r]
      · rfl
      · obtain ⟨x, hx, hl⟩ := h
        rcases List.mem_cons.1 hx with rfl | hx
        · rw [hy] at hl; cases hl
        · exact ⟨x, hx, hl⟩
    · rw [if_pos rfl, if_pos rfl]; rfl
theorem ins_length (p : Pr) : ∀ a : List Pr, (ins p a).length = a.length + 1
  | [] => rfl
  | x :: r => by
    rw [ins]
    split
    · rfl
    · rw [List.length_cons, ins_length p r]; rfl
theorem ins_mem (p q : Pr) : ∀ a : List Pr, q ∈ ins p a ↔ q = p ∨ q ∈ a
  | [] => by simp [ins]
  | x :: r => by
    rw [ins]
    split
    · simp
    · rw [List.mem_cons, ins_mem p q r, List.mem_cons]
      constructor
      · rintro (h | h | h)
        · exact Or.inr (Or.inl h)
        · exact Or.inl h
        · exact Or.inr (Or.inr h)
      · rintro (h | h | h)
        · exact Or.inr (Or.inl h)
        · exact Or.inl h
        · exact Or.inr (Or.inr h)
theorem ins_rising (p : Pr) : ∀ a : List Pr, Rising a → (∀ x ∈ a, x.1 ≠ p.1) → Rising (ins p a)
  | [], _, _ => List.pairwise_singleton _ _
  | x :: r, h, hk => by
    obtain ⟨h1, h2⟩ := List.pairwise_cons.1 h
    rw [ins]
    cases hx : ltK p x
    · rw [if_neg (by simp)]
      refine List.pairwise_cons.2 ⟨fun q hq => ?_, ins_rising p r h2 (fun y hy => hk y (by simp [hy]))⟩
      rcases (ins_mem p q r).1 hq with rfl | hq
      · cases hpx : ltK x q
        · exact absurd (ltK_total _ _ hpx hx) (hk x (by simp))
        · rfl
      · exact h1 q hq
    · rw [if_pos rfl]
      refine List.pairwise_cons.2 ⟨fun q hq => ?_, h⟩
      rcases List.mem_cons.1 hq with rfl | hq
      · exact hx
      · exact ltK_trans _ _ _ hx (h1 q hq)

/-- What put has laid after n of l, and whether p is among it. -/
def St (p : Pr) (l : List Pr) (n : Nat) (dn : Bool) (out : List Pr) : Prop := if dn = true then (∃ x ∈ l.take n, ltK p x = true) ∧ out = ins p (l.take n) else (∀ x ∈ l.take n, ltK p x = false) ∧ out = l.take n
theorem St.start (p : Pr) (l : List Pr) : St p l 0 false [] := by unfold St; rw [if_neg (by simp)]; exact ⟨by simp, by simp⟩
theorem St.yes {p : Pr} {l : List Pr} {n : Nat} {out : List Pr} (h : St p l n true out) (hn : n < l.length) : St p l (n + 1) true (out ++ [((prAt l n).1, (prAt l n).2)]) := by
  unfold St at h ⊢
  rw [if_pos rfl] at h ⊢
  obtain ⟨⟨x, hx, hl⟩, rfl⟩ := h
  rw [take_more l n hn]
  exact ⟨⟨x, List.mem_append.2 (Or.inl hx), hl⟩, (ins_more p _ _ ⟨x, hx, hl⟩).symm⟩
theorem St.hit {p : Pr} {l : List Pr} {n : Nat} {out : List Pr} (h : St p l n false out) (hn : n < l.length) (hx : ltK p (prAt l n) = true) : St p l (n + 1) true ((out ++ [p]) ++ [((prAt l n).1, (prAt l n).2)]) := by
  unfold St at h ⊢
  rw [if_neg (by simp)] at h
  rw [if_pos rfl]
  obtain ⟨h1, rfl⟩ := h
  rw [take_more l n hn]
  exact ⟨⟨_, List.mem_append.2 (Or.inr (List.mem_singleton.2 rfl)), hx⟩, (ins_hit p _ _ h1 hx).symm⟩
theorem St.no {p : Pr} {l : List Pr} {n : Nat} {out : List Pr} (h : St p l n false out) (hn : n < l.length) (hx : ltK p (prAt l n) = false) : St p l (n + 1) false (out ++ [((prAt l n).1, (prAt l n).2)]) := by
  unfold St at h ⊢
  rw [if_neg (by simp)] at h ⊢
  obtain ⟨h1, rfl⟩ := h
  rw [take_more l n hn]
  refine ⟨fun x hm => ?_, rfl⟩
  rcases List.mem_append.1 hm with hm | hm
  · exact h1 x hm
  · rw [List.mem_singleton.1 hm]; exact hx
theorem St.end_yes {p : Pr} {l : List Pr} {n : Nat} {out : List Pr} (h : St p l n true out) (hn : ¬ n < l.length) : out = ins p l := by
  unfold St at h
  rw [if_pos rfl, List.take_of_length_le (by omega)] at h
  exact h.2
theorem St.end_no {p : Pr} {l : List Pr} {n : Nat} {out : List Pr} (h : St p l n false out) (hn : ¬ n < l.length) : out ++ [p] = ins p l := by
  unfold St at h
  rw [if_neg (by simp), List.take_of_length_le (by omega)] at h
  rw [h.2, ins_none p l h.1]
theorem St.len {p : Pr} {l : List Pr} {n : Nat} {dn : Bool} {out : List Pr} (h : St p l n dn out) : out.length ≤ l.length + 1 := by
  unfold St at h
  have ht : (l.take n).length ≤ l.length := by rw [List.length_take]; omega
  cases dn
  · rw [if_neg (by simp)] at h
    rw [h.2]; omega
  · rw [if_pos rfl] at h
    rw [h.2, ins_length]; omega

def PutIs (w : World) (L : List Pr) (e : Ending) (w' : World) : Prop := ∃ v, e = .returned v ∧ OwnP w' w.heap.size v L ∧ Below w.heap.size w w'

theorem size_one (W : World) (o : Obj) : W.heap.size + 1 = (W.alloc o).heap.size := by simp

set_option maxHeartbeats 4000000 in
theorem rput_any (A : Option Addr) (l : List Pr) (c : Nat) (k t : ByteArray) (w : World) (hl : l.length ≤ 900) (hp : PL w w.heap.size A l) :
    Calls Try.prog 31 #[.slice A l.length c, .agg #[.string k, .string t]] w (PutIs w (ins (k, t) l)) := by
  have HP := hd hp
  clear hp
  have hbox : Below (w.heap.size + 1) (w.alloc (.cells #[.string k, .string t] 36)) (w.alloc (.cells #[.string k, .string t] 36)) := Below.refl _ _
  have HB : Hid (∀ wr, Below (w.heap.size + 1) (w.alloc (.cells #[.string k, .string t] 36)) wr → Below w.heap.size w wr ∧ wr.cell? ⟨w.heap.size, 0, none⟩ = some (.string k) ∧ wr.cell? ⟨w.heap.size, 1, none⟩ = some (.string t)) := hd fun wr h =>
    ⟨((Below.refl _ _).alloc (Nat.le_refl _) _).trans (h.mono (by omega)), two_kept (by simpa using h)⟩
  go_enter Try.func31, Try.ntmps31
  go_wp2
  go_loopw [5, 6, 11] (fun v dv i wr => ∃ (n : Nat) (dn : Bool) (out : List Pr), n ≤ l.length ∧ i = .int .i64 n ∧ dv = .bool dn ∧ OwnP wr (w.heap.size + 1) v out ∧ Below (w.heap.size + 1) (w.alloc (.cells #[.string k, .string t] 36)) wr ∧ Hid (St (k, t) l n dn out)) (fun _ _ i _ => l.length - (intOf i).toNat)
  case atStart => exact ⟨0, false, [], Nat.zero_le _, rfl, rfl, OwnP.nil _ _, hbox, St.start _ _⟩
  case round =>
    clear hbox
    obtain ⟨n, dn, out, hn, rfl, rfl, hO, hb, HX⟩ := hrel
    obtain ⟨hw, k1, k2⟩ := HB.out wr hb
    have hsz : w.heap.size < wr.heap.size := by have := hb.size; simp at this; omega
    have hol := HX.out.len
    have hol2 : out.length ≤ 1000 := by omega
    by_cases hlt : n < l.length
    · obtain ⟨b, o, rfl, hlb, c1, c2⟩ := (HP.out.below hw).at_ hlt
      have hO1 := hO.alloc (.cells #[.string (prAt l n).1, .string (prAt l n).2] 36)
      have hs1 := hd (size_one wr (.cells #[.string (prAt l n).1, .string (prAt l n).2] 36))
      have hs2 : w.heap.size + 1 ≤ (wr.alloc (.cells #[.string (prAt l n).1, .string (prAt l n).2] 36)).heap.size := by simp; omega
      have HS2 := hd hs2
      clear hs2
      have hb1 := hb.alloc (show w.heap.size + 1 ≤ wr.heap.size by omega) (.cells #[.string (prAt l n).1, .string (prAt l n).2] 36)
      cases dn
      · cases hx : ltK (k, t) (prAt l n)
        · have HY := hd (HX.out.no hlt hx)
          have hle : leB (prAt l n).1 k = true := (leB_iff (prAt l n) (k, t)).2 hx
          cases hA : Op.bytesLess (prAt l n).1.toList k.toList
          all_goals
            have hB : (Op.bytesLess (prAt l n).1.toList k.toList = false → ((prAt l n).1.toList == k.toList) = true) := fun h => by unfold leB at hle; rw [h] at hle; exact hle
            first
              | (have hB' := hB hA; clear hB hle hx HX
                 go_wp2_with (first
                   | (at_builtin; refine wpList_append_P _ rfl (.tmp 28) (.tmp 30) rfl (w.heap.size + 1) _ out rfl hO1 (prAt l n).1 (prAt l n).2 (wr.heap.size + 1) hs1.out rfl hol2 HS2.out ?_; intro v2 w2 hO2 hG2))
                 go_roundw
                 case rel => exact ⟨n + 1, false, _, by omega, by go_num, rfl, hO2, hG2.below _ _ (Nat.le_refl _) HS2.out hb1, HY⟩
                 case measure => simp [intOf]; omega)
              | (clear hB hle hx HX
                 go_wp2_with (first
                   | (at_builtin; refine wpList_append_P _ rfl (.tmp 28) (.tmp 30) rfl (w.heap.size + 1) _ out rfl hO1 (prAt l n).1 (prAt l n).2 (wr.heap.size + 1) hs1.out rfl hol2 HS2.out ?_; intro v2 w2 hO2 hG2))
                 go_roundw
                 case rel => exact ⟨n + 1, false, _, by omega, by go_num, rfl, hO2, hG2.below _ _ (Nat.le_refl _) HS2.out hb1, HY⟩
                 case measure => simp [intOf]; omega)
        · have HY := hd (HX.out.hit hlt hx)
          have hle : leB (prAt l n).1 k = false := by
            cases h : leB (prAt l n).1 k
            · rfl
            · rw [(leB_iff (prAt l n) (k, t)).1 h] at hx; cases hx
          unfold leB at hle
          have hA : Op.bytesLess (prAt l n).1.toList k.toList = false := (Bool.or_eq_false_iff.1 hle).1
          have hB : ((prAt l n).1.toList == k.toList) = false := (Bool.or_eq_false_iff.1 hle).2
          have hne : some wr.heap.size ≠ Value.ownBlock u5 := fun h => by have := (hO.lt h.symm).2; omega
          have HNE := hd hne
          clear hle hx HX hne
          go_wp2_with (first
            | (at_builtin; refine wpList_append_P _ rfl (.tmp 24) (.tmp 26) rfl (w.heap.size + 1) _ out rfl hO1 k t (wr.heap.size + 1) hs1.out rfl hol2 HS2.out ?_; intro v2 w2 hO2 hG2
               have d1 := (hG2.cell ⟨wr.heap.size, 0, none⟩ (by simp) HNE.out).trans (show (wr.alloc (.cells #[.string (prAt l n).1, .string (prAt l n).2] 36)).cell? ⟨wr.heap.size, 0, none⟩ = some (.string (prAt l n).1) by simp)
               have d2 := (hG2.cell ⟨wr.heap.size, 1, none⟩ (by simp) HNE.out).trans (show (wr.alloc (.cells #[.string (prAt l n).1, .string (prAt l n).2] 36)).cell? ⟨wr.heap.size, 1, none⟩ = some (.string (prAt l n).2) by simp)
               have hb2 := hG2.below _ _ (Nat.le_refl _) HS2.out hb1)
            | (at_builtin; refine wpList_append_P _ rfl (.tmp 28) (.tmp 30) rfl (w.heap.size + 1) _ _ rfl hO2 (prAt l n).1 (prAt l n).2 w2.heap.size rfl rfl (by simp; omega) (Nat.le_trans HS2.out hG2.size) ?_; intro v3 w3 hO3 hG3))
          go_roundw
          case rel => exact ⟨n + 1, true, _, by omega, by go_num, rfl, hO3, hG3.below _ _ (Nat.le_refl _) (Nat.le_trans HS2.out hG2.size) hb2, HY⟩
          case measure => simp [intOf]; omega
      · have HY := hd (HX.out.yes hlt)
        clear HX
        go_wp2_with (first
          | (at_builtin; refine wpList_append_P _ rfl (.tmp 28) (.tmp 30) rfl (w.heap.size + 1) _ out rfl hO1 (prAt l n).1 (prAt l n).2 (wr.heap.size + 1) hs1.out rfl hol2 HS2.out ?_; intro v2 w2 hO2 hG2))
        go_roundw
        case rel => exact ⟨n + 1, true, _, by omega, by go_num, rfl, hO2, hG2.below _ _ (Nat.le_refl _) HS2.out hb1, HY⟩
        case measure => simp [intOf]; omega
    · cases dn
      · have HE := hd (HX.out.end_no hlt)
        have hs0 : w.heap.size + 1 ≤ wr.heap.size := by omega
        clear HX
        go_wp2_with (first
          | (at_builtin; refine wpList_append_P _ rfl (.tmp 35) (.tmp 37) rfl (w.heap.size + 1) _ out rfl hO k t wr.heap.size rfl rfl hol2 hs0 ?_; intro v2 w2 hO2 hG2))
        go_ret
        exact ⟨v2, rfl, by rw [← HE.out]; exact hO2.base (by omega), hG2.below _ _ (by omega) (by omega) hw⟩
      · have HE := hd (HX.out.end_yes hlt)
        clear HX
        go_wp2
        go_ret
        exact ⟨_, rfl, by rw [← HE.out]; exact hO.base (by omega), hw⟩

end Go.Proofs.Ytggbafkeogccjaa
