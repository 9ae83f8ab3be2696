/- without tells those of one list that the other has not, sorted, in new memory. -/
import Derived.Test.YtggbafkeogccjaaSorted
namespace Go.Proofs.Ytggbafkeogccjaa
open Go.RowKit Go.WideMaps Go.Maps

/-- Those of l that are not among m. -/
def minus (l m : List Pr) : List Pr := l.filter fun p => !hasB m p
theorem minus_mem (l m : List Pr) (p : Pr) : p ∈ minus l m ↔ p ∈ l ∧ p ∉ m := by
  unfold minus
  rw [List.mem_filter]
  constructor
  · rintro ⟨h1, h2⟩
    refine ⟨h1, fun h => ?_⟩
    rw [(hasB_iff m p).2 h] at h2
    cases h2
  · rintro ⟨h1, h2⟩
    refine ⟨h1, ?_⟩
    cases h : hasB m p
    · rfl
    · exact absurd ((hasB_iff m p).1 h) h2
theorem minus_nil (l : List Pr) : minus l [] = l := List.filter_eq_self.2 fun _ _ => rfl
theorem minus_apart {l : List Pr} (h : Apart l) (m : List Pr) : Apart (minus l m) := List.Pairwise.filter _ h
theorem minus_len (l m : List Pr) : (minus l m).length ≤ l.length := List.length_filter_le _ _
theorem hasB_append (m k : List Pr) (p : Pr) : hasB (m ++ k) p = (hasB m p || hasB k p) := by unfold hasB; rw [List.any_append]
theorem minus_yes {l : List Pr} (hA : Apart l) (m : List Pr) (q : Pr) (h : hasB (minus l m) q = true) : minus l (m ++ [q]) = dropK (minus l m) q.1 := by
  have hq := (minus_mem l m q).1 ((hasB_iff _ _).1 h)
  unfold minus dropK
  rw [List.filter_filter]
  refine List.filter_congr fun p hp => ?_
  rw [hasB_append]
  have e : hasB [q] p = decide (p.1 = q.1) := by
    rw [Bool.eq_iff_iff, hasB_iff, List.mem_singleton, decide_eq_true_iff]
    constructor
    · rintro rfl; rfl
    · intro hk
      have h1 := getF_of_mem hA hp
      have h2 := getF_of_mem hA hq.1
      rw [hk, h2] at h1
      exact (Option.some.inj h1).symm
  rw [e]
  by_cases hk : p.1 = q.1
  · simp [hk]
  · simp [hk]
theorem minus_no {l : List Pr} (m : List Pr) (q : Pr) (h : hasB (minus l m) q = false) : minus l (m ++ [q]) = minus l m := by
  unfold minus
  refine List.filter_congr fun p hp => ?_
  rw [hasB_append]
  cases h1 : hasB m p
  · have : hasB [q] p = false := by
      cases h2 : hasB [q] p
      · rfl
      · have := (hasB_iff _ _).1 h2
        rw [List.mem_singleton] at this
        subst this
        have h3 : p ∈ minus l m := (minus_mem l m p).2 ⟨hp, fun hm => by rw [(hasB_iff m p).2 hm] at h1; cases h1⟩
        rw [(hasB_iff _ _).2 h3] at h
        cases h
    rw [this]
    rfl
  · rfl
theorem OwnP.base {w : World} {b b' : Nat} {v : Value} {l : List Pr} (h : OwnP w b v l) (hb : b' ≤ b) : OwnP w b' v l := by
  obtain ⟨A, cap, e, h1, h2⟩ := h
  refine ⟨A, cap, e, h1, ?_⟩
  rcases h2 with h2 | ⟨g, c, cur, e2, hg, r⟩
  · exact Or.inl h2
  · exact Or.inr ⟨g, c, cur, e2, by omega, r⟩
theorem has_is (b : Nat) (l : List Pr) (k v : ByteArray) (r : Bool) (w : World) (hr : hasB l (k, v) = r) (hM : OwnM w b l) (hA : Apart l) (hk : k.size ≤ 100) :
    Calls Try.prog 28 #[.map (some b), .agg #[.string k, .string v]] w fun e w' => e = .returned (.bool r) ∧ Below w.heap.size w w' := hr ▸ has_any b l k v w hM hA hk

theorem two_kept {w w' : World} {a b : Value} {t : TypeId} (h : Below (w.alloc (.cells #[a, b] t)).heap.size (w.alloc (.cells #[a, b] t)) w') : w'.cell? ⟨w.heap.size, 0, none⟩ = some a ∧ w'.cell? ⟨w.heap.size, 1, none⟩ = some b :=
  ⟨(h.cell (p := ⟨w.heap.size, 0, none⟩) (by simp)).trans (by simp), (h.cell (p := ⟨w.heap.size, 1, none⟩) (by simp)).trans (by simp)⟩

set_option maxHeartbeats 2000000 in
theorem without_any (A B : Option Addr) (l m : List Pr) (c d : Nat) (w : World) (hF : Fit l) (hA : Apart l) (hG : Fit m) (hp : PL w w.heap.size A l) (hq : PL w w.heap.size B m) :
    Calls Try.prog 32 #[.slice A l.length c, .slice B m.length d] w fun e w' => ∃ v, e = .returned v ∧ OwnP w' w.heap.size v (srt (minus l m)) ∧ Below w.heap.size w w' := by
  have hl60 := hF.1
  have hm60 := hG.1
  have HA := hd hA
  have HG := hd hG
  have HQ := hd hq
  have hC := hd (gather_any A l c w hF hA hp)
  clear hA hF hp hG hq
  go_enter Try.func32, Try.ntmps32
  go_wp2_with (go_at_call 27; refine hC.out.mono ?_; rintro e w1 ⟨rfl, hM1, hb1⟩)
  clear hC
  go_loopw [12] (fun i wr => ∃ n : Nat, n ≤ m.length ∧ i = .int .i64 n ∧ OwnM wr w.heap.size (minus l (m.take n)) ∧ Below w.heap.size w wr) (fun i _ => m.length - (intOf i).toNat)
  case atStart => exact ⟨0, Nat.zero_le _, rfl, by rw [List.take_zero, minus_nil]; exact hM1, hb1⟩
  case round =>
    clear hM1 hb1
    obtain ⟨n, hn, rfl, hM, hb⟩ := hrel
    by_cases hlt : n < m.length
    · obtain ⟨g, o, rfl, hlg, c1, c2⟩ := (HQ.out.below hb).at_ hlt
      obtain ⟨s1, s2⟩ := HG.out.at_ hlt
      have s1m : Hid ((prAt m n).1.size ≤ maxLen) := hd (by unfold maxLen; omega)
      have HT := hd (take_more m n hlt)
      have HMA := hd (minus_apart HA.out (m.take n))
      obtain ⟨l', hl'⟩ : ∃ l', l' = minus l (m.take n) := ⟨_, rfl⟩
      rw [← hl'] at hM HMA
      have HL := hd hl'
      clear hl'
      cases hh : hasB l' ((prAt m n).1, (prAt m n).2)
      · have HN := hd (minus_no (l := l) (m.take n) ((prAt m n).1, (prAt m n).2) (by rw [← HL.out]; exact hh))
        have hC := hd (has_is w.heap.size l' (prAt m n).1 (prAt m n).2 _ (wr.alloc (.cells #[.string (prAt m n).1, .string (prAt m n).2] 36)) hh (hM.alloc _) HMA.out s1)
        clear hh
        go_wp2_with (go_at_call 28; refine hC.out.mono ?_; rintro e w1 ⟨rfl, hb1⟩)
        go_roundw
        case rel => exact ⟨n + 1, by omega, by go_num, by rw [HT.out, HN.out, ← HL.out]; exact (hM.alloc _).below hb1, (hb.alloc hb.size _).trans (hb1.mono (by have := hb.size; simp; omega))⟩
        case measure => simp [intOf]; omega
      · have HN := hd (minus_yes HA.out (m.take n) ((prAt m n).1, (prAt m n).2) (by rw [← HL.out]; exact hh))
        have hC := hd (has_is w.heap.size l' (prAt m n).1 (prAt m n).2 _ (wr.alloc (.cells #[.string (prAt m n).1, .string (prAt m n).2] 36)) hh (hM.alloc _) HMA.out s1)
        clear hh
        have hM0 := hM.alloc (.cells #[.string (prAt m n).1, .string (prAt m n).2] 36)
        go_wp2_with (first
          | (go_at_call 28; refine hC.out.mono ?_; rintro e w1 ⟨rfl, hb1⟩; obtain ⟨k1, k2⟩ := two_kept hb1; have hM1 := hM0.below hb1)
          | (at_delete; refine wpList_delete_M _ rfl _ _ rfl w.heap.size l' rfl hM1 (prAt m n).1 rfl s1m.out ?_; intro w2 hM2 hg2))
        have hb2 : Below w.heap.size w w2 := ((hb.alloc hb.size _).trans (hb1.mono (by have := hb.size; simp; omega))).grown hg2 (by have := hb.size; have := hb1.size; simp at this; omega) (fun j hj => by cases hj; exact Nat.le_refl _)
        go_roundw
        case rel => exact ⟨n + 1, by omega, by go_num, by rw [HT.out, HN.out, ← HL.out]; exact hM2, hb2⟩
        case measure => simp [intOf]; omega
    · have hM1 : OwnM wr w.heap.size (minus l m) := by rw [List.take_of_length_le (by omega)] at hM; exact hM
      have hC := hd (sorted_any w.heap.size (minus l m) wr hM1 (minus_apart HA.out m) (by have := minus_len l m; omega))
      clear hM
      go_wp2_with (go_at_call 29; refine hC.out.mono ?_; rintro e w2 ⟨v, rfl, hO, hb2⟩)
      go_ret
      exact ⟨v, rfl, hO.base hb.size, hb.trans (hb2.mono hb.size)⟩

end Go.Proofs.Ytggbafkeogccjaa
