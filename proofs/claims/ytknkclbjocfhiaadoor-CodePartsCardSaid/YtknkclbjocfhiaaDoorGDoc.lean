/- The chapter's example. The walk of GlyphEnds: whatever the input, it answers true, and old memory stays as it was. The document's hexadecimal digits, and what stands behind a backslash. The document's Quote. -/
import Derived.Test.YtknkclbjocfhiaaDoorGUnqs
namespace Go.Proofs.YtknkclbjocfhiaaDoor
open Go.RowKit

theorem live_str : quoR [97, 10, 34] = [34, 97, 92, 97, 59, 92, 50, 50, 59, 34] := by
  have h1 : hexL 10 = [97] := by rw [hexL_lt 10 (by omega)]; decide
  have h2 : hexL 34 = [50, 50] := by rw [hexL_ge 34 (by omega), hexL_lt (34 / 16) (by omega)]; decide
  have e : okR [97, 10, 34] = true := by decide
  unfold quoR
  rw [e]
  show 34 :: (bodyL [97, 10, 34] ++ [34]) = _
  have b1 : escL 97 = [97] := by decide
  have b2 : escL 10 = [92, 97, 59] := by
    unfold escL
    rw [if_neg (by decide), show (10 : Int).toNat = 10 from rfl, h1]; rfl
  have b3 : escL 34 = [92, 50, 50, 59] := by
    unfold escL
    rw [if_neg (by decide), show (34 : Int).toNat = 34 from rfl, h2]; rfl
  rw [bodyL_cons, bodyL_cons, bodyL_cons, b1, b2, b3]
  rfl

end Go.Proofs.YtknkclbjocfhiaaDoor

namespace Go.Proofs.YtknkclbjocfhiaaDoor
open Go.RowKit

theorem byte_str (B : UInt8) (W : World) : (convert 39 9 (.slice (some ⟨W.heap.size, 0, none⟩) 1 1)).run Tryd.prog (W.alloc (.cells #[.int .u8 B.toNat] 5)) = .ok (.string (bs [B])) (W.alloc (.cells #[.int .u8 B.toNat] 5)) :=
  str_of (l := [B]) (VL_new W 5 (bv [B])) rfl (by omega)
set_option maxRecDepth 4000 in
theorem bs_append (a b : List UInt8) : bs a ++ bs b = bs (a ++ b) := ByteArray.mk_append_mk a b
set_option maxRecDepth 4000 in
theorem bs_take (l : List UInt8) (n : Nat) : (bs l).extract 0 n = bs (l.take n) := by
  show (ByteArray.mk l.toArray).extract 0 n = ByteArray.mk (l.take n).toArray
  rw [ByteArray.extract_mk]; simp
set_option maxRecDepth 4000 in
theorem unq_call (l : List UInt8) (w : World) (r : List Int × Int × Int) (hr : unqL l = r) (hl : l.length ≤ 40000) : Calls Tryd.prog 90 #[.string (bs l)] w (UnqOk r w) := by
  subst hr
  exact unquote_any (bs l) w (by rw [bs_size]; exact hl)
set_option maxRecDepth 4000 in
theorem UnqOk.own {w w' : World} {r : List Int × Int × Int} {e : Ending} (h : UnqOk r w e w') (l : List Int) (p er : Int) (n : Nat) (hr : r = (l, p, er)) (hn : l.length = n) :
    ∃ A c, e = .returned (.tuple #[.slice A n c, .int .i64 p, .int .i64 er]) ∧ n ≤ c ∧ VL w' w'.heap.size A (rv l) ∧ Below w.heap.size w w' := by
  subst hr
  obtain ⟨v, he, ho, hb⟩ := h
  obtain ⟨A, c, rfl, h1, _, h2, _⟩ := ho.open_at n (by rw [rv_len]; exact hn)
  exact ⟨A, c, he, h1, h2, hb⟩

end Go.Proofs.YtknkclbjocfhiaaDoor

namespace Go.Proofs.YtknkclbjocfhiaaDoor
open Go.RowKit

theorem lit_cut (s : ByteArray) (hs : s = ⟨#[48, 49, 50, 51, 52, 53, 54, 55, 56, 57, 97, 98, 99, 100, 101, 102]⟩) (m : Nat) (hm : m < 16) : s.extract m (m + 1) = bs [dg m] := by
  subst hs
  have : ∀ m : Fin 16, (⟨#[48, 49, 50, 51, 52, 53, 54, 55, 56, 57, 97, 98, 99, 100, 101, 102]⟩ : ByteArray).extract m.val (m.val + 1) = bs [dg m.val] := by decide
  exact this ⟨m, hm⟩

set_option maxRecDepth 4000 in
theorem str_eq {a b : ByteArray} (h : a = b) : Value.string a = .string b := by rw [h]
set_option maxRecDepth 4000 in
set_option maxHeartbeats 1000000 in
theorem hex_any (n : Nat) : ∀ (w : World), n ≤ 2147483647 → Calls Tryd.prog 73 #[.int .i32 n] w (Pure (.string (bs (hexL n))) w) := by
  induction n using Nat.strongRecOn with
  | _ n ih =>
    intro w hn
    by_cases h : n < 16
    · have HF := hd (hexL_lt n h)
      go_enter Tryd.func73, Tryd.ntmps73
      go_wp2_with fail
      go_ret
      exact pure_ret (str_eq ((lit_cut _ rfl (n % 16) (by omega)).trans (by rw [HF.out, Nat.mod_eq_of_lt h])))
    · have HC := ih (n / 16) (by omega) w (by omega)
      have e : (((n / 16 : Nat)) : Int) = (n : Int) / 16 := by omega
      rw [e] at HC
      have hlen := hexL_len 7 (n / 16) (by omega)
      obtain ⟨S, hS⟩ : ∃ S, S = bs (hexL (n / 16)) := ⟨_, rfl⟩
      obtain ⟨X, hX⟩ : ∃ X, X = bs [dg (n % 16)] := ⟨_, rfl⟩
      have hlit := (lit_cut _ rfl (n % 16) (by omega)).trans hX.symm
      have hsz : ¬ (S.size + X.size > 9223372036854775807) := by rw [hS, hX, bs_size, bs_size]; simp; omega
      have HF := hd (show S ++ X = bs (hexL n) by rw [hexL_ge n (by omega), ← bs_append, hS, hX])
      rw [← hS] at HC
      have HC := hd HC
      have h16 : ¬ (n : Int) < 16 := by omega
      clear ih e hS hX hlen
      go_enter Tryd.func73, Tryd.ntmps73
      go_wp2_with fail
      refine HC.out.mono ?_
      rintro e w' ⟨rfl, rfl⟩
      go_wp2_with fail
      go_ret
      exact pure_ret (str_eq HF.out)

def escT (s : List UInt8) : Value := match escR s with
  | some (c, n) => .tuple #[.int .i32 c, .int .i64 n, .bool true]
  | none => .tuple #[.int .i32 0, .int .i64 0, .bool false]
set_option maxRecDepth 4000 in
theorem escT_none {s : List UInt8} (h : escR s = none) : escT s = .tuple #[.int .i32 0, .int .i64 0, .bool false] := by unfold escT; rw [h]
set_option maxRecDepth 4000 in
theorem escT_some {s : List UInt8} {c n : Nat} (h : escR s = some (c, n)) : escT s = .tuple #[.int .i32 c, .int .i64 n, .bool true] := by unfold escT; rw [h]
set_option maxRecDepth 4000 in
/-- What escape tells, told by the digits ahead of a place. -/
theorem escR_at (s : List UInt8) (k : Nat) (hr : run6 s = s.take k) (hk : k ≤ s.length) : escR s = if k ≠ 0 ∧ s[k]? = some 59 ∧ isR (val (s.take k)) = true ∧ isP (val (s.take k)) = false ∧ hexL (val (s.take k)) = s.take k then some (val (s.take k), k + 1) else none := by
  have hl : (s.take k).length = k := by simp; omega
  have hH : ∀ b ∈ s.take k, isH b = true := fun b hb => by rw [← hr] at hb; unfold run6 at hb; exact mem_while _ b hb
  unfold escR
  rw [hr, hl]
  by_cases hk0 : k = 0
  · subst hk0
    rw [if_neg (fun e => e.1 (by simp)), if_neg (fun e => e.1 rfl)]
  · have hne : s.take k ≠ [] := fun e => hk0 (by rw [← hl, e]; rfl)
    have hc : canon (s.take k) = true ↔ hexL (val (s.take k)) = s.take k := ⟨fun h => hexL_val _ hne hH h, fun h => by rw [← h]; exact hexL_canon _⟩
    by_cases hall : s[k]? = some 59 ∧ isR (val (s.take k)) = true ∧ isP (val (s.take k)) = false ∧ hexL (val (s.take k)) = s.take k
    · rw [if_pos ⟨hne, hall.1, hc.2 hall.2.2.2, hall.2.1, hall.2.2.1⟩, if_pos ⟨hk0, hall⟩]
    · rw [if_neg (fun e => hall ⟨e.2.1, e.2.2.2.1, e.2.2.2.2, hc.1 e.2.2.1⟩), if_neg (fun e => hall e.2)]
set_option maxRecDepth 4000 in
theorem pure_q {f : FuncId} {args : Array Value} {v : Value} {w : World} (h : Calls Tryd.prog f args w (Pure v w)) : Calls Tryd.prog f args w (Quiet v w) := h.mono fun _ _ hq => hq.quiet
set_option maxRecDepth 4000 in
theorem extract_to (s : ByteArray) (k : Nat) : (s.extract 0 k).toList = s.data.toList.take k := by
  rw [ByteArray.toList_eq]
  have h := ByteArray.extract_mk s.data.toList 0 k
  exact (congrArg (fun t : ByteArray => t.data.toList) h).trans (by simp)

set_option maxRecDepth 100000 in
set_option maxHeartbeats 8000000 in
theorem escape_any (s : ByteArray) (w : World) (_hs : s.size ≤ 100000) : Calls Tryd.prog 78 #[.string s] w (Quiet (escT s.data.toList) w) := by
  have HS := hd (data_len s)
  go_enter Tryd.func78, Tryd.ntmps78
  go_wp2
  go_loop [5, 10] (fun u i => ∃ k : Nat, k ≤ s.size ∧ k ≤ 6 ∧ i = .int .i64 k ∧ u = .int .i32 (val (s.data.toList.take k)) ∧ Hid (∀ j, j < k → ∃ b, s.data.toList[j]? = some b ∧ isH b = true)) (fun _ i => 7 - (intOf i).toNat)
  case atStart => exact ⟨0, Nat.zero_le _, by omega, rfl, rfl, fun j hj => absurd hj (Nat.not_lt_zero _)⟩
  case round =>
    obtain ⟨k, hk, hk6, rfl, rfl, HA⟩ := hrel
    have hvl : val (s.data.toList.take k) < 16777216 := by
      have := val_lt (s.data.toList.take k) (fun b hb => by
        obtain ⟨j, hj, rfl⟩ := List.mem_iff_getElem.1 hb
        obtain ⟨b, e1, e2⟩ := HA.out j (by simp at hj; omega)
        have : (s.data.toList.take k)[j] = b := by
          rw [List.getElem_take]; exact (List.getElem?_eq_some_iff.1 e1).2
        rw [this]; exact e2)
      have hle : (s.data.toList.take k).length ≤ 6 := by simp; omega
      have := Nat.pow_le_pow_right (n := 16) (by omega) hle
      omega
    by_cases hlt : k < s.size
    · have hat := at_data s k hlt
      have hbk := s[k].toNat_lt
      by_cases h59 : s[k] = 59
      · have hR6 := run6_of s.data.toList k hk6 (by rw [HS.out]; exact hk) HA.out (fun _ b hb => by rw [hat] at hb; injection hb with hb; rw [← hb, h59]; exact isH_semi)
        have hE := escR_at s.data.toList k hR6 (by rw [HS.out]; exact hk)
        have e59 : (s[k].toNat : Int) = 59 := by rw [h59]; rfl
        obtain ⟨V, hV⟩ : ∃ V, V = val (s.data.toList.take k) := ⟨_, rfl⟩
        rw [← hV] at hE hvl
        have HV := hd hV
        have HR := hd (fun W => is_any (V : Int) W)
        have HP := hd (fun W => plain_any (V : Int) W)
        have HX := hd (fun W => hex_any V W (by omega))
        have HT := hd (extract_to s k)
        obtain ⟨S, hS⟩ : ∃ S, S = bs (hexL V) := ⟨_, rfl⟩
        rw [← hS] at HX
        rw [h59] at hat
        by_cases hk0 : k = 0
        · subst hk0
          have HF := hd (escT_none (by rw [hE, if_neg (fun e => e.1 rfl)]))
          rw [← HV.out]
          clear hE hR6 h59 hat hbk hS hV HA
          go_wp2_with fail
          go_quiet (first | ((go_at_call 87; exact quiet_in0 (pure_q (HR.out _)))) | ((go_at_call 72; exact quiet_in0 (pure_q (HP.out _)))) | ((go_at_call 73; exact quiet_in0 (pure_q (HX.out _)))))
          go_wp2
          go_ret3
          exact ret_quiet HF.out.symm (by first | exact ⟨_, rfl⟩ | exact ⟨_, World.drewN_drewN _ _ _⟩ | exact ⟨_, (World.drewN_drewN _ _ _).trans (World.drewN_drewN _ _ _)⟩)
        · have g0 : ((k : Int) == 0) = false := by simp; omega
          rw [← HV.out]
          cases hr : isR V
          · have HF := hd (escT_none (by rw [hE, if_neg (fun e => by rw [hr] at e; cases e.2.2.1)]))
            rw [hr] at HR
            clear hE hR6 h59 hat hbk hS hV HA hr hk0
            go_wp2_with fail
            go_quiet (first | ((go_at_call 87; exact quiet_in0 (pure_q (HR.out _)))) | ((go_at_call 72; exact quiet_in0 (pure_q (HP.out _)))) | ((go_at_call 73; exact quiet_in0 (pure_q (HX.out _)))))
            go_wp2
            go_ret3
            exact ret_quiet HF.out.symm (by first | exact ⟨_, rfl⟩ | exact ⟨_, World.drewN_drewN _ _ _⟩ | exact ⟨_, (World.drewN_drewN _ _ _).trans (World.drewN_drewN _ _ _)⟩)
          · cases hp : isP V
            · by_cases hx : hexL V = s.data.toList.take k
              · have HF := hd (escT_some (by rw [hE, if_pos ⟨hk0, hat, hr, hp, hx⟩]))
                rw [hr] at HR
                rw [hp] at HP
                have hcmp : (S.toList == (s.extract 0 k).toList) = true := by rw [hS, bs_toList, HT.out, hx]; simp
                clear hE hR6 h59 hat hbk hS hV HA hr hk0 hp hx
                go_wp2_with fail
                go_quiet (first | ((go_at_call 87; exact quiet_in0 (pure_q (HR.out _)))) | ((go_at_call 72; exact quiet_in0 (pure_q (HP.out _)))) | ((go_at_call 73; exact quiet_in0 (pure_q (HX.out _)))))
                go_wp2
                go_ret3
                exact ret_quiet (HF.out.symm) (by first | exact ⟨_, rfl⟩ | exact ⟨_, World.drewN_drewN _ _ _⟩ | exact ⟨_, (World.drewN_drewN _ _ _).trans (World.drewN_drewN _ _ _)⟩)
              · have HF := hd (escT_none (by rw [hE, if_neg (fun e => hx e.2.2.2.2)]))
                rw [hr] at HR
                rw [hp] at HP
                have hcmp : (S.toList == (s.extract 0 k).toList) = false := by rw [hS, bs_toList, HT.out]; simpa using hx
                clear hE hR6 h59 hat hbk hS hV HA hr hk0 hp hx
                go_wp2_with fail
                go_quiet (first | ((go_at_call 87; exact quiet_in0 (pure_q (HR.out _)))) | ((go_at_call 72; exact quiet_in0 (pure_q (HP.out _)))) | ((go_at_call 73; exact quiet_in0 (pure_q (HX.out _)))))
                go_wp2
                go_ret3
                exact ret_quiet (HF.out.symm) (by first | exact ⟨_, rfl⟩ | exact ⟨_, World.drewN_drewN _ _ _⟩ | exact ⟨_, (World.drewN_drewN _ _ _).trans (World.drewN_drewN _ _ _)⟩)
            · have HF := hd (escT_none (by rw [hE, if_neg (fun e => by rw [hp] at e; cases e.2.2.2.1)]))
              rw [hr] at HR
              rw [hp] at HP
              clear hE hR6 h59 hat hbk hS hV HA hr hk0 hp
              go_wp2_with fail
              go_quiet (first | ((go_at_call 87; exact quiet_in0 (pure_q (HR.out _)))) | ((go_at_call 72; exact quiet_in0 (pure_q (HP.out _)))) | ((go_at_call 73; exact quiet_in0 (pure_q (HX.out _)))))
              go_wp2
              go_ret3
              exact ret_quiet HF.out.symm (by first | exact ⟨_, rfl⟩ | exact ⟨_, World.drewN_drewN _ _ _⟩ | exact ⟨_, (World.drewN_drewN _ _ _).trans (World.drewN_drewN _ _ _)⟩)
      · have hbyte := byte_eq (b := s[k]) (c := 59)
        obtain ⟨V, hV⟩ : ∃ V, V = val (s.data.toList.take k) := ⟨_, rfl⟩
        have HB : Hid (isH s[k] = true → val (s.data.toList.take (k + 1)) = V * 16 + hval s[k]) := hd (fun _ => by rw [take_snoc s k hlt, val_append, ← hV])
        have HNone : Hid (run6 s.data.toList = s.data.toList.take k → escT s.data.toList = .tuple #[.int .i32 0, .int .i64 0, .bool false]) := hd (fun h => escT_none (by
          rw [escR_at _ k h (by rw [HS.out]; exact hk), if_neg]
          rintro ⟨_, e, _⟩
          rw [hat] at e
          exact h59 (Option.some.inj e)))
        have HMore : Hid (isH s[k] = true → ∀ j, j < k + 1 → ∃ b, s.data.toList[j]? = some b ∧ isH b = true) := hd (fun h => (one_more (p := fun j => ∃ b, s.data.toList[j]? = some b ∧ isH b = true) HA ⟨_, hat, h⟩).out)
        have HH := hd (isH_iff s[k])
        have HVal := hd (show hval s[k] = if s[k].toNat ≤ 57 then s[k].toNat - 48 else s[k].toNat - 87 from rfl)
        have HRun : Hid (k = 6 ∨ isH s[k] = false → run6 s.data.toList = s.data.toList.take k) := hd (fun h => run6_of s.data.toList k hk6 (by rw [HS.out]; exact hk) HA.out (fun h6 b hb => by
          rw [hat] at hb
          rcases h with h | h
          · omega
          · rw [← Option.some.inj hb]; exact h))
        rw [← hV] at hvl ⊢
        obtain ⟨y, hy⟩ : ∃ y : Nat, s[k].toNat = y := ⟨_, rfl⟩
        have hx : (s[k].toNat : Int) = (y : Int) := by rw [hy]
        have hq : y ≠ 59 := fun e => h59 (hbyte (by rw [hx, e]; rfl))
        have HVal2 := hd (show hval s[k] = if y ≤ 57 then y - 48 else y - 87 by rw [HVal.out, hy])
        have HH2 := hd (show isH s[k] = true ↔ (48 ≤ y ∧ y ≤ 57 ∨ 97 ≤ y ∧ y ≤ 102) by rw [HH.out, hy])
        obtain ⟨x, hxy⟩ : ∃ x : Int, (y : Int) = x := ⟨_, rfl⟩
        rw [hxy] at hx
        have HXY := hd hxy
        have b1 : 0 ≤ x := by omega
        have b2 : x < 256 := by omega
        have g59 : (x == 59) = false := by simp; omega
        have h59x : x ≠ 59 := by omega
        clear hbyte HVal HH hV hat hbk h59 HA hy hq hxy
        by_cases hk6e : k = 6
        · have HF := hd (HNone.out (HRun.out (.inl hk6e)))
          have g6 : ((k : Int) == 6) = true := by simp; omega
          clear hk6e h59x
          go_wp2
          go_ret3
          exact ret_quiet HF.out.symm ⟨0, rfl⟩
        · have g6 : ((k : Int) == 6) = false := by simp; omega
          have hk5 : k + 1 ≤ 6 := by omega
          clear hk6e h59x
          rcases (show x < 48 ∨ (48 ≤ x ∧ x ≤ 57) ∨ (57 < x ∧ x < 97) ∨ (97 ≤ x ∧ x ≤ 102) ∨ 102 < x by omega) with h | ⟨h, h2⟩ | ⟨h, h2⟩ | ⟨h, h2⟩ | h
          · have HF := hd (HNone.out (HRun.out (.inr (by
              cases hh : isH s[k]
              · rfl
              · have := HH2.out.1 hh; have := HXY.out; omega))))
            have i2 : x ≤ 57 := by omega
            have i3 : x < 97 := by omega
            go_wp2
            go_ret3
            exact ret_quiet HF.out.symm ⟨0, rfl⟩
          · have hH := HH2.out.2 (by have := HXY.out; omega)
            have HN := hd (HB.out hH)
            have HM := hd (HMore.out hH)
            have HVx := hd (show ((hval s[k] : Nat) : Int) = x - 48 by rw [HVal2.out, if_pos (by have := HXY.out; omega)]; have := HXY.out; omega)
            clear hH
            go_wp2
            go_round
            case rel => exact ⟨k + 1, by omega, by omega, by go_num, int_eq (by rw [HN.out]; have := HVx.out; omega), HM⟩
            case measure => simp [intOf]; omega
          · have HF := hd (HNone.out (HRun.out (.inr (by
              cases hh : isH s[k]
              · rfl
              · have := HH2.out.1 hh; have := HXY.out; omega))))
            have i1 : 48 ≤ x := by omega
            go_wp2
            go_ret3
            exact ret_quiet HF.out.symm ⟨0, rfl⟩
          · have hH := HH2.out.2 (by have := HXY.out; omega)
            have HN := hd (HB.out hH)
            have HM := hd (HMore.out hH)
            have HVx := hd (show ((hval s[k] : Nat) : Int) = x - 87 by rw [HVal2.out, if_neg (by have := HXY.out; omega)]; have := HXY.out; omega)
            have i1 : 48 ≤ x := by omega
            have i2 : 57 < x := by omega
            clear hH
            go_wp2
            go_round
            case rel => exact ⟨k + 1, by omega, by omega, by go_num, int_eq (by rw [HN.out]; have := HVx.out; omega), HM⟩
            case measure => simp [intOf]; omega
          · have HF := hd (HNone.out (HRun.out (.inr (by
              cases hh : isH s[k]
              · rfl
              · have := HH2.out.1 hh; have := HXY.out; omega))))
            have i1 : 48 ≤ x := by omega
            have i2 : 57 < x := by omega
            have i3 : 97 ≤ x := by omega
            go_wp2
            go_ret3
            exact ret_quiet HF.out.symm ⟨0, rfl⟩
    · have hke : k = s.size := by omega
      have HF := hd (escT_none (s := s.data.toList) (by
        rw [escR_at s.data.toList k (run6_of s.data.toList k hk6 (by rw [HS.out]; exact hk) HA.out (fun _ b hb => by
          have := (List.getElem?_eq_some_iff.1 hb).1
          rw [HS.out] at this; omega)) (by rw [HS.out]; exact hk), if_neg]
        rintro ⟨_, e, _⟩
        have := (List.getElem?_eq_some_iff.1 e).1
        rw [HS.out] at this; omega))
      have hlt' : decide (k < s.size) = false := decide_eq_false hlt
      clear HA hlt hke
      go_wp2
      go_ret3
      exact ret_quiet HF.out.symm ⟨0, rfl⟩

end Go.Proofs.YtknkclbjocfhiaaDoor

namespace Go.Proofs.YtknkclbjocfhiaaDoor
open Go.RowKit

theorem nat_str (n : Nat) (hn : n < 256) (W : World) : (convert 39 9 (.slice (some ⟨W.heap.size, 0, none⟩) 1 1)).run Tryd.prog (W.alloc (.cells #[.int .u8 (n : Int)] 5)) = .ok (.string (bs [UInt8.ofNat n])) (W.alloc (.cells #[.int .u8 (n : Int)] 5)) := by
  have := byte_str (UInt8.ofNat n) W
  rwa [show (UInt8.ofNat n).toNat = n by simp; omega] at this

set_option maxRecDepth 100000 in
set_option maxHeartbeats 4000000 in
theorem rquote_any (A : Option Addr) (l : List Int) (n c : Nat) (w : World) (hn : l.length = n) (hl : n ≤ 1000) (hp : VL w w.heap.size A (rv l)) :
    Calls Tryd.prog 50 #[.slice A n c] w (QuoOk l w) := by
  have HP := hd hp
  have HN := hd hn
  have HC := hd (rcheck_any A l n c w hn (by omega) hp)
  unfold chkL at HC
  clear hp hn
  cases hk : okR l
  · have HF := hd (show quoR l = [] by unfold quoR; rw [hk]; rfl)
    have HG := hd (show chkL l = 4 by unfold chkL; rw [hk]; rfl)
    rw [hk] at HC
    clear hk
    go_enter Tryd.func50, Tryd.ntmps50
    go_wp2_with fail
    refine HC.out.mono ?_
    rintro e w' ⟨rfl, rfl⟩
    go_wp2
    go_ret2
    exact quo_ret HF.out HG.out (Below.refl _ _)
  · have HF := hd (show quoR l = 34 :: bodyL l ++ [34] by unfold quoR; rw [hk]; rfl)
    have HG := hd (show chkL l = 0 by unfold chkL; rw [hk]; rfl)
    have HK := hd ((okR_iff l).1 hk)
    have HB : Hid (∀ k, (bodyL (l.take k)).length ≤ 8000) := hd (fun k => by
      have h1 := bodyL_len (l.take k) (okR_take hk k)
      have h2 : (l.take k).length ≤ l.length := List.length_take_le' _ _
      have := HN.out
      omega)
    rw [hk] at HC
    clear hk
    have H0 := hd (show (⟨#[34]⟩ : ByteArray) = bs (34 :: bodyL (l.take 0)) from rfl)
    go_enter Tryd.func50, Tryd.ntmps50
    go_wp2_with fail
    refine HC.out.mono ?_
    rintro e w' ⟨rfl, rfl⟩
    go_wp2_with fail
    go_loopw [5, 15] (fun v i wr => ∃ (k : Nat) (S : ByteArray), k ≤ n ∧ i = .int .i64 k ∧ v = .string S ∧ Hid (S = bs (34 :: bodyL (l.take k))) ∧ Below w.heap.size w wr) (fun _ i _ => n - (intOf i).toNat)
    case atStart => exact ⟨0, _, Nat.zero_le _, rfl, rfl, H0, Below.refl _ _⟩
    case round =>
      obtain ⟨k, S, hk, rfl, rfl, HS, hb⟩ := hrel
      have hSz : S.size ≤ 8001 := by rw [HS.out, bs_size]; have := HB.out k; simp; omega
      by_cases hlt : k < n
      · obtain ⟨b, o, rfl, hbl, hc⟩ := (HP.out.below hb).rune (k := k) (by have := HN.out; omega)
        have hR := HK.out k (by have := HN.out; omega)
        have HX := hd (bodyL_take l k (by have := HN.out; omega))
        obtain ⟨m, hm⟩ : ∃ m : Nat, atL l k = m := ⟨(atL l k).toNat, by rw [isR_iff] at hR; omega⟩
        rw [hm] at hR hc HX
        have hm2 : m ≤ 1114111 := by rw [isR_iff] at hR; omega
        have HPl := hd (plain_any (m : Int) wr)
        clear hm hR
        cases hp : isP m
        · have HE := hd (show escL m = [92] ++ hexL m ++ [59] by unfold escL; rw [hp]; simp)
          obtain ⟨Z, hZ⟩ : ∃ Z, Z = bs (hexL m) := ⟨_, rfl⟩
          have HH := hd (hex_any m wr (by omega))
          rw [← hZ] at HH
          rw [hp] at HPl
          have hZs : Z.size ≤ 6 := by rw [hZ, bs_size]; exact hexL_six m hm2
          obtain ⟨Y, hY⟩ : ∃ Y, Y = bs [92] ++ Z := ⟨_, rfl⟩
          obtain ⟨X, hX⟩ : ∃ X, X = Y ++ bs [59] := ⟨_, rfl⟩
          have e1 : (⟨#[92]⟩ : ByteArray) ++ Z = Y := hY.symm
          have e2 : Y ++ (⟨#[59]⟩ : ByteArray) = X := hX.symm
          have hYs : Y.size ≤ 7 := by rw [hY, hZ, bs_append, bs_size]; have := hexL_six m hm2; simp; omega
          have hXs : X.size ≤ 8 := by rw [hX, hY, hZ, bs_append, bs_append, bs_size]; have := hexL_six m hm2; simp; omega
          have s1 : ¬ ((⟨#[92]⟩ : ByteArray).size + Z.size > 9223372036854775807) := by
            have : (⟨#[92]⟩ : ByteArray).size = 1 := rfl
            omega
          have s2 : ¬ (Y.size + (⟨#[59]⟩ : ByteArray).size > 9223372036854775807) := by
            have : (⟨#[59]⟩ : ByteArray).size = 1 := rfl
            omega
          have s3 : ¬ (S.size + X.size > 9223372036854775807) := by omega
          have HS2 := hd (show S ++ X = bs (34 :: bodyL (l.take (k + 1))) by
            rw [HX.out, HE.out, HS.out, hX, hY, hZ, bs_append, bs_append, bs_append]; simp)
          clear hp hX hY hZ
          go_wp2_with (first | (go_at_call 72; refine HPl.out.mono ?_; rintro e w' ⟨rfl, rfl⟩) | (go_at_call 73; refine HH.out.mono ?_; rintro e w' ⟨rfl, rfl⟩))
          go_roundw
          case rel => exact ⟨k + 1, S ++ X, by omega, by go_num, rfl, HS2, hb⟩
          case measure => simp [intOf]; omega
        · have hpp := (isP_iff m).1 hp
          have m1 : m ≤ 126 := by omega
          have m2 : 32 ≤ m := by omega
          have HE := hd (show escL m = [UInt8.ofNat m] by unfold escL; rw [hp]; simp)
          rw [hp] at HPl
          obtain ⟨X, hX⟩ : ∃ X, X = bs [UInt8.ofNat m] := ⟨_, rfl⟩
          have hXs : X.size ≤ 1 := by rw [hX, bs_size]; simp
          have s3 : ¬ (S.size + X.size > 9223372036854775807) := by omega
          have HS2 := hd (show S ++ X = bs (34 :: bodyL (l.take (k + 1))) by
            rw [HX.out, HE.out, HS.out, hX, bs_append]; simp)
          have hcv := fun W => nat_str m (by omega) W
          rw [← hX] at hcv
          have hb2 := hb.alloc hb.size (.cells #[.int .u8 (m : Int)] 5)
          clear hp hX hpp
          go_wp2_with (go_at_call 72; refine HPl.out.mono ?_; rintro e w' ⟨rfl, rfl⟩)
          go_roundw
          case rel => exact ⟨k + 1, S ++ X, by omega, by go_num, rfl, HS2, hb2⟩
          case measure => simp [intOf]; omega
      · have HX := hd (show l.take k = l from List.take_of_length_le (by have := HN.out; omega))
        have hlt' : decide (k < n) = false := decide_eq_false hlt
        have s3 : ¬ (S.size + (⟨#[34]⟩ : ByteArray).size > 9223372036854775807) := by
          have : (⟨#[34]⟩ : ByteArray).size = 1 := rfl
          omega
        obtain ⟨X, hX⟩ : ∃ X, X = S ++ (⟨#[34]⟩ : ByteArray) := ⟨_, rfl⟩
        have HS2 := hd (show X = bs (quoR l) by
          rw [HF.out, hX, HS.out, HX.out]
          exact bs_append (34 :: bodyL l) [34])
        have hXe := hX.symm
        clear hlt hX
        go_wp2
        go_ret2
        exact ⟨by rw [← HS2.out, HG.out] <;> rfl, hb⟩

end Go.Proofs.YtknkclbjocfhiaaDoor
