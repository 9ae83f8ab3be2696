/- A string read as a text. -/
import Derived.Test.YtknkclbjocfhiaaDoorGRune
namespace Go.Proofs.YtknkclbjocfhiaaDoor
open Go.RowKit

def UnqOk (r : List Int × Int × Int) (w : World) (e : Ending) (w' : World) : Prop := ∃ v, e = .returned (.tuple #[v, .int .i64 r.2.1, .int .i64 r.2.2]) ∧ OwnV 21 w' w.heap.size v (rv r.1) ∧ Below w.heap.size w w'
set_option maxRecDepth 4000 in
theorem unq_ret {w w' : World} {r : List Int × Int × Int} {l : List Int} {p e : Int} {v : Value} (h : r = (l, p, e)) (ho : OwnV 21 w' w.heap.size v (rv l)) (hb : Below w.heap.size w w') : UnqOk r w (.returned (.tuple #[v, .int .i64 p, .int .i64 e])) w' := by
  subst h; exact ⟨v, rfl, ho, hb⟩
set_option maxRecDepth 4000 in
theorem unq_err {w w' : World} {r : List Int × Int × Int} {p q : Int} (h : r = ([], q, 11)) (hp : p = q) (hb : Below w.heap.size w w') : UnqOk r w (.returned (.tuple #[.slice none 0 0, .int .i64 p, .int .i64 11])) w' := by
  subst h hp; exact ⟨_, rfl, OwnV.nil _ _, hb⟩
set_option maxRecDepth 4000 in
theorem drop_cons (s : ByteArray) (i : Nat) (h : i < s.size) : s.data.toList.drop i = s[i] :: s.data.toList.drop (i + 1) := by
  rw [List.drop_eq_getElem_cons (by rw [data_len]; exact h)]; rfl
set_option maxRecDepth 4000 in
theorem drop_all (s : ByteArray) (i : Nat) (h : s.size ≤ i) : s.data.toList.drop i = [] := List.drop_eq_nil_of_le (by rw [data_len]; exact h)
set_option maxRecDepth 4000 in
theorem empty_of (s : ByteArray) (h : s.size = 0) : s = ⟨#[]⟩ := by
  apply ByteArray.ext
  exact Array.eq_empty_of_size_eq_zero h
set_option maxRecDepth 4000 in
theorem byte_eq {b c : UInt8} (h : (b.toNat : Int) = c.toNat) : b = c := by
  have : b.toNat = c.toNat := by omega
  exact UInt8.toNat_inj.1 this

set_option maxRecDepth 4000 in
set_option maxHeartbeats 8000000 in
theorem unquote_any (s : ByteArray) (w : World) (hs : s.size ≤ 40000) :
    Calls Tryd.prog 90 #[.string s] w (UnqOk (unqL s.data.toList) w) := by
  rcases Nat.eq_zero_or_pos s.size with h0 | h0
  · have := empty_of s h0
    subst this
    clear h0 hs
    go_enter Tryd.func90, Tryd.ntmps90
    go_wp2
    go_ret3
    exact unq_err rfl rfl (Below.refl _ _)
  · have HC0 := drop_cons s 0 h0
    rw [List.drop_zero] at HC0
    have he : s.toList.isEmpty = false := by
      rw [ByteArray.toList_eq, HC0]; rfl
    have hb0 := s[0].toNat_lt
    obtain ⟨x0, hx0⟩ : ∃ x : Int, (s[0].toNat : Int) = x := ⟨_, rfl⟩
    by_cases h34 : s[0] = 34
    · have hU := hd (show unqL s.data.toList = unqA (s.data.toList.drop 1) 1 [] by rw [HC0, unqL_cons, if_pos h34]; rfl)
      have hx : x0 = 34 := by rw [← hx0, h34]; rfl
      subst hx
      clear HC0 h34 hb0
      go_enter Tryd.func90, Tryd.ntmps90
      go_wp2
      have h1 : 1 ≤ s.size := h0
      go_loopw [5, 6] (fun v i wr => ∃ (k : Nat) (out : List Int), 1 ≤ k ∧ k ≤ s.size ∧ i = .int .i64 k ∧ out.length ≤ k ∧ Hid (OwnV 21 wr w.heap.size v (rv out)) ∧ Below w.heap.size w wr ∧ Hid (unqL s.data.toList = unqA (s.data.toList.drop k) k out)) (fun _ i _ => s.size - (intOf i).toNat)
      case atStart => exact ⟨1, [], Nat.le_refl _, h1, rfl, by simp, OwnV.nil _ _, Below.refl _ _, hU⟩
      case round =>
        obtain ⟨k, out, hk1, hk, rfl, hol, ho, hb, HU⟩ := hrel
        by_cases hlt : k < s.size
        · have hdc := drop_cons s k hlt
          have hbk := s[k].toNat_lt
          obtain ⟨x, hx⟩ : ∃ x : Int, (s[k].toNat : Int) = x := ⟨_, rfl⟩
          by_cases h34 : s[k] = 34
          · have hx2 : x = 34 := by rw [← hx, h34]; rfl
            subst hx2
            have hg : ((k : Int) == (s.size : Int)) = false := by simp; omega
            by_cases hend : k + 1 = s.size
            · have HF := hd (show unqL s.data.toList = (out, 0, 0) by rw [HU.out, hdc, h34, drop_all s (k + 1) (by omega), unqA_last])
              have hg2 : ¬ k + 1 < s.size := by omega
              clear hdc h34 hend hbk
              go_wp2
              go_ret3
              exact unq_ret HF.out ho.out hb
            · have HF := hd (show unqL s.data.toList = ([], ((k + 1 : Nat) : Int), 11) by
                rw [HU.out, hdc, h34]
                exact unqA_more _ _ _ (fun e => by have := congrArg List.length e; rw [List.length_drop, data_len] at this; simp at this; omega))
              have hg2 : k + 1 < s.size := by omega
              clear hdc h34 hend hbk
              go_wp2
              go_ret3
              exact unq_err HF.out (by omega) hb
          · have hq : x ≠ 34 := fun e => h34 (byte_eq (by rw [hx, e]; rfl))
            have g3 : (x == 34) = false := by simpa using hq
            have g4 : (x != 34) = true := by simpa using hq
            obtain ⟨c, n, hc⟩ : ∃ c n, readL (s.data.toList.drop k) = (c, n) := ⟨_, _, rfl⟩
            have hR := readRune_any (s.extract k s.size) wr (by rw [extract_size]; omega) (by rw [extract_size]; omega)
            rw [extract_drop, hc] at hR
            have HR := hd hR
            clear hR
            by_cases hn : n = 0
            · subst hn
              have HF := hd (show unqL s.data.toList = ([], (k : Int), 11) by
                rw [HU.out, hdc]
                refine unqA_bad _ _ _ _ h34 ?_
                rw [← hdc, hc])
              clear hdc h34 hbk hq hc
              go_wp2_with (go_at_call 96; refine HR.out.mono ?_; rintro e w' ⟨rfl, rfl⟩)
              go_ret3
              exact unq_err HF.out rfl hb
            · have hnl : n ≤ s.size - k := by
                have := readL_le (s.data.toList.drop k)
                rw [hc, List.length_drop, data_len] at this
                exact this
              have HF := hd (show unqL s.data.toList = unqA (s.data.toList.drop (k + n)) (k + n) (out ++ [c]) by
                rw [HU.out, hdc]
                rw [hdc] at hc
                rw [unqA_step _ _ _ _ h34 c n hc hn, ← hdc, List.drop_drop])
              have gn : ((n : Int) == 0) = false := by simp; omega
              have hn1 : 1 ≤ n := by omega
              have hlo : (rv out).length ≤ 50000 := by rw [rv_len]; omega
              clear hdc h34 hbk hq hc hn
              go_wp2_with (first | (go_at_call 96; refine HR.out.mono ?_; rintro e w' ⟨rfl, rfl⟩) | (at_builtin; refine wpList_append_1 runeElem (by decide) _ rfl (.tmp 36) (.tmp 38) rfl w.heap.size _ (rv out) (.int .i32 c) _ rfl ho.out _ rfl rfl rfl hlo hb.size ?_; intro v3 w3 ho3 hg3))
              have HO3 := hd (show OwnV 21 w3 w.heap.size v3 (rv (out ++ [c])) by rw [rv_append]; exact ho3)
              have hb3 := hg3.below w.heap.size w (Nat.le_refl _) hb.size hb
              go_roundw
              case rel => exact ⟨k + n, out ++ [c], by omega, by omega, by go_num, by simp; omega, HO3, hb3, HF⟩
              case measure => simp [intOf]; omega
        · have HF := hd (show unqL s.data.toList = ([], (k : Int), 11) by rw [HU.out, drop_all s k (by omega), unqA_nil])
          have hg : ((k : Int) == (s.size : Int)) = true := by simp; omega
          have hlt' : decide (k < s.size) = false := decide_eq_false hlt
          clear hlt
          go_wp2
          go_ret3
          exact unq_err HF.out rfl hb
    · have HF := hd (show unqL s.data.toList = ([], 0, 11) by rw [HC0, unqL_cons, if_neg h34])
      have hq : x0 ≠ 34 := fun e => h34 (byte_eq (by rw [hx0, e]; rfl))
      have g3 : (x0 == 34) = false := by simpa using hq
      have g4 : (x0 != 34) = true := by simpa using hq
      clear HC0 h34 hb0 hq
      go_enter Tryd.func90, Tryd.ntmps90
      go_wp2
      go_ret3
      exact unq_err HF.out rfl (Below.refl _ _)

end Go.Proofs.YtknkclbjocfhiaaDoor
