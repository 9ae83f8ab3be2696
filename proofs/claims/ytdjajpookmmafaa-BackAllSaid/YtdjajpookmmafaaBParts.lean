/- BackParts answers true. -/
import Derived.Test.YtdjajpookmmafaaBTwice
import Derived.Test.YtdjajpookmmafaaTLives
namespace Go.Proofs.Ytdjajpookmmafaa
open Go.RowKit

theorem gd_appg {P : Program} {ops : Array Oper} {Q : Exit → Act → World → Prop} {dst : Option Nat} {xs : Array Operand} {ts : Array TypeId} {t : TypeId} {pos : String} {af : Array Edge} {gq : Nat × Bool} {rest : List Oper} {a : Act} {w : World} (h : wpList P ops Q ({ dst := dst, op := .call { callee := .builtin .append, args := xs, argTypes := ts }, type := t, pos := pos, after := af, guard := some gq } :: rest) a w) : wpList P ops Q ({ dst := dst, op := .call { callee := .builtin .append, args := xs, argTypes := ts }, type := t, pos := pos, after := af, guard := some gq } :: rest) a w := h
set_option maxRecDepth 4000 in
/-- A guarded operation, its guard met. -/
theorem wpList_wanted {P : Program} {ops : Array Oper} {Q : Exit → Act → World → Prop} {dst : Option Nat} {op : Op} {t : TypeId} {pos : String} {af : Array Edge} {gq : Nat × Bool} {rest : List Oper} {a : Act} {w : World} (hw : Region.wanted { dst := dst, op := op, type := t, pos := pos, after := af, guard := some gq } (yielded ops a.tmps) = true) (h : wpList P ops Q ({ dst := dst, op := op, type := t, pos := pos, after := af, guard := none } :: rest) a w) : wpList P ops Q ({ dst := dst, op := op, type := t, pos := pos, after := af, guard := some gq } :: rest) a w := by
  unfold wpList at h ⊢
  rw [if_pos hw]
  rw [if_pos (by rfl)] at h
  exact h
set_option maxRecDepth 4000 in
theorem LO.join {w : World} {A : Option Addr} {ds es : List OC} {us vs : List OpP} (hv : VL w w.heap.size A (cellsO ds ++ cellsO es)) (h1 : ∀ (k : Nat) (c : OC) (a : OpP), ds[k]? = some c → us[k]? = some a → OkA w c a) (h2 : ∀ (k : Nat) (c : OC) (a : OpP), es[k]? = some c → vs[k]? = some a → OkA w c a) (l1 : ds.length = us.length) (l2 : es.length = vs.length) : LO w A (ds ++ es) (us ++ vs) := by
  refine ⟨by rw [cellsO_app]; exact hv, by simp [l1, l2], fun k c a hc ha => ?_⟩
  rcases Nat.lt_or_ge k us.length with h | h
  · rw [List.getElem?_append_left (by omega)] at hc ha
    exact h1 k c a hc ha
  · rw [List.getElem?_append_right (by omega)] at hc ha
    rw [l1] at hc
    exact h2 _ c a hc ha
set_option maxRecDepth 4000 in
theorem tiny_app {us vs : List OpP} (h1 : ∀ (k : Nat) (a : OpP), us[k]? = some a → Tiny a) (h2 : ∀ (k : Nat) (a : OpP), vs[k]? = some a → Tiny a) : ∀ (k : Nat) (a : OpP), (us ++ vs)[k]? = some a → Tiny a := fun k a ha => by
  rcases List.mem_append.1 (List.mem_of_getElem? ha) with h | h
  · obtain ⟨j, hj⟩ := List.getElem?_of_mem h; exact h1 j a hj
  · obtain ⟨j, hj⟩ := List.getElem?_of_mem h; exact h2 j a hj
set_option maxRecDepth 4000 in
/-- A row of two lists, behind both appends. -/
theorem joined_row {w w' : World} {b n : Nat} {xs : List Value} {v : Value} (h1 : Below b w w') (hb : b ≤ w'.heap.size) (hg : w'.ownsRow b 35 21 v n xs) {w2 : World} (g2 : w'.grownBy w2 v.ownBlock) : Below b w w2 :=
  h1.grown g2 (by omega) fun j hj => by
    rcases hg.2 with ⟨rfl, _⟩ | ⟨g, cap, cur, rfl, hbg, _⟩
    · simp [Value.ownBlock] at hj
    · obtain rfl : g = j := by simpa [Value.ownBlock] using hj
      exact hbg

set_option maxRecDepth 4000 in
theorem parts_lo {w w' : World} {A : Option Addr} {c n : Nat} {B C : Option Addr} {ds es : List OC} {us vs : List OpP} {b : Nat} (hr : w'.ownsRow b 35 21 (.slice A n c) n (cellsO ds ++ cellsO es)) (h : LO w B ds us) (g : LO w C es vs) (hb : Below w.heap.size w w') : LO w' A (ds ++ es) (us ++ vs) := by
  obtain ⟨A', c', e, _, hv⟩ := row_vl hr
  injection e with e
  subst e
  exact LO.join hv (fun k c a h1 h2 => (h.ha k c a h1 h2).later hb) (fun k c a h1 h2 => (g.ha k c a h1 h2).later hb) h.hl g.hl
set_option maxRecDepth 4000 in
theorem own_capO {w : World} {b n c size : Nat} {A : Option Addr} {t : TypeId} {xs : List Value} (h : w.ownsRow b t size (.slice A n c) n xs) : n ≤ c := by
  obtain ⟨A', c', e, h1, _⟩ := row_vl h
  injection e with _ _ e
  subst e
  exact h1
set_option maxRecDepth 100000 in
set_option maxHeartbeats 8000000 in
theorem bparts_0 (w : World) (A B : Option Addr) (us vs : List OpP) (n m cap dap : Nat) (ds es : List OC) (h : LO w A ds us) (_g : LO w B es vs) (hn : us.length = n) (_hm : vs.length = m) (n63 : n ≤ 9223372036854775807) (_m63 : m ≤ 9223372036854775807) (hf : fewAllO us 12 = false) : Calls Try.prog 6 #[.slice A n cap, .slice B m dap] w (AllTrue w) := by
  have HM1 := hd (fun W9 (h9 : Below w.heap.size w W9) => fewall_at (cap := cap) (h.later h9) hn n63 12)
  rw [hf] at HM1
  clear h _g hn _hm hf
  go_enter Try.func6, Try.ntmps6
  go_wp2_with (first
    | (go_at_call 9; refine Calls.mono (live11_any _) ?_; rintro e w1 ⟨rfl, b9⟩; have HB := hd b9; clear b9)
    | (go_at_call 16; have h1 := HM1.out; clear HM1; refine Calls.mono (h1 _ HB.out) ?_; rintro e w2 ⟨rfl, b9⟩; have HB := hd (step_b HB.out b9); clear b9 h1))
  go_ret
  exact ⟨rfl, HB.out⟩
set_option maxRecDepth 100000 in
set_option maxHeartbeats 8000000 in
theorem bparts_0b (w : World) (A B : Option Addr) (us vs : List OpP) (n m cap dap : Nat) (ds es : List OC) (h : LO w A ds us) (g : LO w B es vs) (hn : us.length = n) (hm : vs.length = m) (n63 : n ≤ 9223372036854775807) (m63 : m ≤ 9223372036854775807) (hf : fewAllO us 12 = true) (hg : fewAllO vs 12 = false) : Calls Try.prog 6 #[.slice A n cap, .slice B m dap] w (AllTrue w) := by
  have HM1 := hd (fun W9 (h9 : Below w.heap.size w W9) => fewall_at (cap := cap) (h.later h9) hn n63 12)
  have HM2 := hd (fun W9 (h9 : Below w.heap.size w W9) => fewall_at (cap := dap) (g.later h9) hm m63 12)
  rw [hf] at HM1
  rw [hg] at HM2
  clear h g hn hm hf hg
  go_enter Try.func6, Try.ntmps6
  go_wp2_with (first
    | (go_at_call 9; refine Calls.mono (live11_any _) ?_; rintro e w1 ⟨rfl, b9⟩; have HB := hd b9; clear b9)
    | (go_at_call 16; have h1 := HM1.out; clear HM1; refine Calls.mono (h1 _ HB.out) ?_; rintro e w2 ⟨rfl, b9⟩; have HB := hd (step_b HB.out b9); clear b9 h1)
    | (go_at_call 16; have h2 := HM2.out; clear HM2; refine Calls.mono (h2 _ HB.out) ?_; rintro e w3 ⟨rfl, b9⟩; have HB := hd (step_b HB.out b9); clear b9 h2))
  go_ret
  exact ⟨rfl, HB.out⟩

set_option maxRecDepth 100000 in
set_option maxHeartbeats 8000000 in
theorem bparts_f (w : World) (A B : Option Addr) (us vs ys zs : List OpP) (er fr : Int) (n m cap dap : Nat) (ds es : List OC) (h : LO w A ds us) (g : LO w B es vs) (hn : us.length = n) (hm : vs.length = m) (n12 : n ≤ 12) (m12 : m ≤ 12) (hf : fewAllO us 12 = true) (hg : fewAllO vs 12 = true) (tu : ∀ (k : Nat) (a : OpP), us[k]? = some a → Tiny a) (tv : ∀ (k : Nat) (a : OpP), vs[k]? = some a → Tiny a)
    (hu : allO us = (ys, er)) (hv : allO vs = (zs, fr)) (h1 : (fr != 0) = true) (huv : allO (us ++ vs) = ([], fr)) : Calls Try.prog 6 #[.slice A n cap, .slice B m dap] w (AllTrue w) := by
  have HM1 := hd (fun W9 (h9 : Below w.heap.size w W9) => fewall_at (cap := cap) (h.later h9) hn (by omega) 12)
  have HM2 := hd (fun W9 (h9 : Below w.heap.size w W9) => fewall_at (cap := dap) (g.later h9) hm (by omega) 12)
  rw [hf] at HM1
  rw [hg] at HM2
  have HA1 := hd (fun W9 (h9 : Below w.heap.size w W9) => ball_at (cap := cap) (h.later h9) hn (by omega) tu)
  have HA2 := hd (fun W9 (h9 : Below w.heap.size w W9) => ball_at (cap := dap) (g.later h9) hm (by omega) tv)
  rw [hu] at HA1
  rw [hv] at HA2
  have HL := hd h
  have HG := hd g
  have HN := hd hn
  have HM := hd hm
  have HNM := hd (show (us ++ vs).length = n + m by rw [List.length_append, hn, hm])
  have HTT := hd (tiny_app tu tv)
  have hl1 : (cellsO ds).length = n * 21 := by rw [cellsO_len, h.hl, hn]
  have hl2 : (cellsO es).length = m * 21 := by rw [cellsO_len, g.hl, hm]
  have HL1 := hd hl1
  have HL2 := hd hl2
  have HUV := hd huv
  clear h g hn hm hf hg tu tv hu hv hl1 hl2 huv
  go_enter Try.func6, Try.ntmps6
  go_upto_region 6 with (first
    | (go_at_call 9; refine Calls.mono (live11_any _) ?_; rintro e w1 ⟨rfl, b9⟩; have HB := hd b9; clear b9)
    | (go_at_call 16; have h1 := HM1.out; clear HM1; refine Calls.mono (h1 _ HB.out) ?_; rintro e w2 ⟨rfl, b9⟩; have HB := hd (step_b HB.out b9); clear b9 h1)
    | (go_at_call 16; have h2 := HM2.out; clear HM2; refine Calls.mono (h2 _ HB.out) ?_; rintro e w3 ⟨rfl, b9⟩; have HB := hd (step_b HB.out b9); clear b9 h2)
    | (go_at_call 17; have h1 := HA1.out; clear HA1; refine Calls.mono (h1 _ HB.out) ?_; rintro e w4 ⟨Ay, cy, dy, rfl, hcy, hly, b9⟩; dsimp only at hcy hly; have HLY := hd hly; have HCY := hd hcy; have HB := hd (step_b HB.out b9); clear b9 h1 hly hcy))
  go_upto_region 7 with (go_at_call 17; have h1 := HA2.out; clear HA2; refine Calls.mono (h1 _ HB.out) ?_; rintro e w5 ⟨Az, cz, dz, rfl, hcz, hlz, b9⟩; dsimp only at hcz hlz; have HLZ := hd hlz; have HCZ := hd hcz; have HLY := hd (HLY.out.later b9); have HB := hd (step_b HB.out b9); clear b9 h1 hlz hcz)
  go_upto_region 8 with (first
    | ((with_reducible refine gd_app (xs := #[.const (.slice none 0 0), .tmp 32]) ?_); refine wpList_append_G0 opG w5 rfl _ _ rfl w5.heap.size rfl A n cap w5.heap.size (cellsO ds) rfl HL1.out (HL.out.later HB.out).hv (cellsO_all _) (by unfold maxLen; omega) (by omega) (Nat.le_refl _) ?_; intro Ap cp w6 hr6 hb6 _; have HR6 := hd hr6; have HB6 := hd hb6; clear hr6 hb6)
    | ((with_reducible refine gd_app (xs := #[.tmp 33, .tmp 34]) ?_); refine wpList_append_GX opG w6 rfl _ _ rfl w5.heap.size (.slice Ap n cp) n (cellsO ds) rfl HR6.out B m dap w6.heap.size (cellsO es) rfl HL2.out ((HG.out.later HB.out).later HB6.out).hv (cellsO_all _) (by unfold maxLen; omega) (by omega) HB6.out.size ?_; intro Aq cq w7 hr7 hg7 _; have HB7 := hd (joined_row HB6.out HB6.out.size HR6.out hg7); have HR7 := hd hr7; clear hr7 hg7)
    | (go_at_call 17; refine Calls.mono (ball_at (us := us ++ vs) (cs := ds ++ es) (parts_lo HR7.out (HL.out.later HB.out) (HG.out.later HB.out) HB7.out) HNM.out (by omega) HTT.out) ?_; rintro e w8 ⟨Ac, cc, dc, rfl, hcc, hlc, b9⟩; rw [HUV.out] at hcc hlc; rw [HUV.out]; dsimp only at hcc hlc; dsimp only; have HLC := hd hlc; have HCC := hd hcc; have HLY := hd ((HLY.out.later HB7.out).later b9); have HLZ := hd ((HLZ.out.later HB7.out).later b9); have HB := hd (step_b (step_b HB.out HB7.out) b9); clear b9 hlc hcc HB6 HB7 HR6 HR7))
  go_wp2_with fail
  go_ret
  exact ⟨by simp, HB.out⟩
set_option maxRecDepth 100000 in
set_option maxHeartbeats 8000000 in
theorem bparts_e (w : World) (A B : Option Addr) (us vs ys zs : List OpP) (er : Int) (n m cap dap : Nat) (ds es : List OC) (h : LO w A ds us) (g : LO w B es vs) (hn : us.length = n) (hm : vs.length = m) (n12 : n ≤ 12) (m12 : m ≤ 12) (hf : fewAllO us 12 = true) (hg : fewAllO vs 12 = true) (tu : ∀ (k : Nat) (a : OpP), us[k]? = some a → Tiny a) (tv : ∀ (k : Nat) (a : OpP), vs[k]? = some a → Tiny a)
    (hu : allO us = (ys, er)) (hv : allO vs = (zs, 0)) (h1 : (er != 0) = true) (huv : allO (us ++ vs) = ([], er)) : Calls Try.prog 6 #[.slice A n cap, .slice B m dap] w (AllTrue w) := by
  have HM1 := hd (fun W9 (h9 : Below w.heap.size w W9) => fewall_at (cap := cap) (h.later h9) hn (by omega) 12)
  have HM2 := hd (fun W9 (h9 : Below w.heap.size w W9) => fewall_at (cap := dap) (g.later h9) hm (by omega) 12)
  rw [hf] at HM1
  rw [hg] at HM2
  have HA1 := hd (fun W9 (h9 : Below w.heap.size w W9) => ball_at (cap := cap) (h.later h9) hn (by omega) tu)
  have HA2 := hd (fun W9 (h9 : Below w.heap.size w W9) => ball_at (cap := dap) (g.later h9) hm (by omega) tv)
  rw [hu] at HA1
  rw [hv] at HA2
  have HL := hd h
  have HG := hd g
  have HN := hd hn
  have HM := hd hm
  have HNM := hd (show (us ++ vs).length = n + m by rw [List.length_append, hn, hm])
  have HTT := hd (tiny_app tu tv)
  have hl1 : (cellsO ds).length = n * 21 := by rw [cellsO_len, h.hl, hn]
  have hl2 : (cellsO es).length = m * 21 := by rw [cellsO_len, g.hl, hm]
  have HL1 := hd hl1
  have HL2 := hd hl2
  have HUV := hd huv
  clear h g hn hm hf hg tu tv hu hv hl1 hl2 huv
  go_enter Try.func6, Try.ntmps6
  go_upto_region 6 with (first
    | (go_at_call 9; refine Calls.mono (live11_any _) ?_; rintro e w1 ⟨rfl, b9⟩; have HB := hd b9; clear b9)
    | (go_at_call 16; have h1 := HM1.out; clear HM1; refine Calls.mono (h1 _ HB.out) ?_; rintro e w2 ⟨rfl, b9⟩; have HB := hd (step_b HB.out b9); clear b9 h1)
    | (go_at_call 16; have h2 := HM2.out; clear HM2; refine Calls.mono (h2 _ HB.out) ?_; rintro e w3 ⟨rfl, b9⟩; have HB := hd (step_b HB.out b9); clear b9 h2)
    | (go_at_call 17; have h1 := HA1.out; clear HA1; refine Calls.mono (h1 _ HB.out) ?_; rintro e w4 ⟨Ay, cy, dy, rfl, hcy, hly, b9⟩; dsimp only at hcy hly; have HLY := hd hly; have HCY := hd hcy; have HB := hd (step_b HB.out b9); clear b9 h1 hly hcy))
  go_upto_region 7 with (go_at_call 17; have h1 := HA2.out; clear HA2; refine Calls.mono (h1 _ HB.out) ?_; rintro e w5 ⟨Az, cz, dz, rfl, hcz, hlz, b9⟩; dsimp only at hcz hlz; have HLZ := hd hlz; have HCZ := hd hcz; have HLY := hd (HLY.out.later b9); have HB := hd (step_b HB.out b9); clear b9 h1 hlz hcz)
  go_upto_region 8 with (first
    | ((with_reducible refine gd_app (xs := #[.const (.slice none 0 0), .tmp 32]) ?_); refine wpList_append_G0 opG w5 rfl _ _ rfl w5.heap.size rfl A n cap w5.heap.size (cellsO ds) rfl HL1.out (HL.out.later HB.out).hv (cellsO_all _) (by unfold maxLen; omega) (by omega) (Nat.le_refl _) ?_; intro Ap cp w6 hr6 hb6 _; have HR6 := hd hr6; have HB6 := hd hb6; clear hr6 hb6)
    | ((with_reducible refine gd_app (xs := #[.tmp 33, .tmp 34]) ?_); refine wpList_append_GX opG w6 rfl _ _ rfl w5.heap.size (.slice Ap n cp) n (cellsO ds) rfl HR6.out B m dap w6.heap.size (cellsO es) rfl HL2.out ((HG.out.later HB.out).later HB6.out).hv (cellsO_all _) (by unfold maxLen; omega) (by omega) HB6.out.size ?_; intro Aq cq w7 hr7 hg7 _; have HB7 := hd (joined_row HB6.out HB6.out.size HR6.out hg7); have HR7 := hd hr7; clear hr7 hg7)
    | (go_at_call 17; refine Calls.mono (ball_at (us := us ++ vs) (cs := ds ++ es) (parts_lo HR7.out (HL.out.later HB.out) (HG.out.later HB.out) HB7.out) HNM.out (by omega) HTT.out) ?_; rintro e w8 ⟨Ac, cc, dc, rfl, hcc, hlc, b9⟩; rw [HUV.out] at hcc hlc; rw [HUV.out]; dsimp only at hcc hlc; dsimp only; have HLC := hd hlc; have HCC := hd hcc; have HLY := hd ((HLY.out.later HB7.out).later b9); have HLZ := hd ((HLZ.out.later HB7.out).later b9); have HB := hd (step_b (step_b HB.out HB7.out) b9); clear b9 hlc hcc HB6 HB7 HR6 HR7))
  go_wp2_with fail
  go_ret
  exact ⟨by simp, HB.out⟩
set_option maxRecDepth 100000 in
set_option maxHeartbeats 8000000 in
theorem bparts_ok (w : World) (A B : Option Addr) (us vs ys zs : List OpP) (n m cap dap : Nat) (ds es : List OC) (h : LO w A ds us) (g : LO w B es vs) (hn : us.length = n) (hm : vs.length = m) (n12 : n ≤ 12) (m12 : m ≤ 12) (hf : fewAllO us 12 = true) (hg : fewAllO vs 12 = true) (tu : ∀ (k : Nat) (a : OpP), us[k]? = some a → Tiny a) (tv : ∀ (k : Nat) (a : OpP), vs[k]? = some a → Tiny a)
    (hu : allO us = (ys, 0)) (hv : allO vs = (zs, 0)) (huv : allO (us ++ vs) = (zs ++ ys, 0)) (ny nz : Nat) (hny : ys.length = ny) (hnz : zs.length = nz) (nyl : ny ≤ 12) (nzl : nz ≤ 12) (hty : ∀ (k : Nat) (a : OpP), (zs ++ ys)[k]? = some a → Tiny a) : Calls Try.prog 6 #[.slice A n cap, .slice B m dap] w (AllTrue w) := by
  have HNY := hd hny
  have HNZ := hd hnz
  have HZY := hd (show (zs ++ ys).length = nz + ny by rw [List.length_append, hny, hnz])
  have HTY := hd hty
  have HSM := hd (sameAllO_yes (us := zs ++ ys) rfl)
  clear hny hnz hty
  have HM1 := hd (fun W9 (h9 : Below w.heap.size w W9) => fewall_at (cap := cap) (h.later h9) hn (by omega) 12)
  have HM2 := hd (fun W9 (h9 : Below w.heap.size w W9) => fewall_at (cap := dap) (g.later h9) hm (by omega) 12)
  rw [hf] at HM1
  rw [hg] at HM2
  have HA1 := hd (fun W9 (h9 : Below w.heap.size w W9) => ball_at (cap := cap) (h.later h9) hn (by omega) tu)
  have HA2 := hd (fun W9 (h9 : Below w.heap.size w W9) => ball_at (cap := dap) (g.later h9) hm (by omega) tv)
  rw [hu] at HA1
  rw [hv] at HA2
  have HL := hd h
  have HG := hd g
  have HN := hd hn
  have HM := hd hm
  have HNM := hd (show (us ++ vs).length = n + m by rw [List.length_append, hn, hm])
  have HTT := hd (tiny_app tu tv)
  have hl1 : (cellsO ds).length = n * 21 := by rw [cellsO_len, h.hl, hn]
  have hl2 : (cellsO es).length = m * 21 := by rw [cellsO_len, g.hl, hm]
  have HL1 := hd hl1
  have HL2 := hd hl2
  have HUV := hd huv
  clear h g hn hm hf hg tu tv hu hv hl1 hl2 huv
  go_enter Try.func6, Try.ntmps6
  go_upto_region 6 with (first
    | (go_at_call 9; refine Calls.mono (live11_any _) ?_; rintro e w1 ⟨rfl, b9⟩; have HB := hd b9; clear b9)
    | (go_at_call 16; have h1 := HM1.out; clear HM1; refine Calls.mono (h1 _ HB.out) ?_; rintro e w2 ⟨rfl, b9⟩; have HB := hd (step_b HB.out b9); clear b9 h1)
    | (go_at_call 16; have h2 := HM2.out; clear HM2; refine Calls.mono (h2 _ HB.out) ?_; rintro e w3 ⟨rfl, b9⟩; have HB := hd (step_b HB.out b9); clear b9 h2)
    | (go_at_call 17; have h1 := HA1.out; clear HA1; refine Calls.mono (h1 _ HB.out) ?_; rintro e w4 ⟨Ay, cy, dy, rfl, hcy, hly, b9⟩; dsimp only at hcy hly; have HLY := hd hly; have HCY := hd hcy; have HB := hd (step_b HB.out b9); clear b9 h1 hly hcy))
  go_upto_region 7 with (go_at_call 17; have h1 := HA2.out; clear HA2; refine Calls.mono (h1 _ HB.out) ?_; rintro e w5 ⟨Az, cz, dz, rfl, hcz, hlz, b9⟩; dsimp only at hcz hlz; have HLZ := hd hlz; have HCZ := hd hcz; have HLY := hd (HLY.out.later b9); have HB := hd (step_b HB.out b9); clear b9 h1 hlz hcz)
  go_upto_region 8 with (first
    | ((with_reducible refine gd_app (xs := #[.const (.slice none 0 0), .tmp 32]) ?_); refine wpList_append_G0 opG w5 rfl _ _ rfl w5.heap.size rfl A n cap w5.heap.size (cellsO ds) rfl HL1.out (HL.out.later HB.out).hv (cellsO_all _) (by unfold maxLen; omega) (by omega) (Nat.le_refl _) ?_; intro Ap cp w6 hr6 hb6 _; have HR6 := hd hr6; have HB6 := hd hb6; clear hr6 hb6)
    | ((with_reducible refine gd_app (xs := #[.tmp 33, .tmp 34]) ?_); refine wpList_append_GX opG w6 rfl _ _ rfl w5.heap.size (.slice Ap n cp) n (cellsO ds) rfl HR6.out B m dap w6.heap.size (cellsO es) rfl HL2.out ((HG.out.later HB.out).later HB6.out).hv (cellsO_all _) (by unfold maxLen; omega) (by omega) HB6.out.size ?_; intro Aq cq w7 hr7 hg7 _; have HB7 := hd (joined_row HB6.out HB6.out.size HR6.out hg7); have HR7 := hd hr7; clear hr7 hg7)
    | (go_at_call 17; refine Calls.mono (ball_at (us := us ++ vs) (cs := ds ++ es) (parts_lo HR7.out (HL.out.later HB.out) (HG.out.later HB.out) HB7.out) HNM.out (by omega) HTT.out) ?_; rintro e w8 ⟨Ac, cc, dc, rfl, hcc, hlc, b9⟩; rw [HUV.out] at hcc hlc; rw [HUV.out]; dsimp only at hcc hlc; dsimp only; have HLC := hd hlc; have HCC := hd hcc; have HLY := hd ((HLY.out.later HB7.out).later b9); have HLZ := hd ((HLZ.out.later HB7.out).later b9); have HB := hd (step_b (step_b HB.out HB7.out) b9); clear b9 hlc hcc HB6 HB7 HR6 HR7))
  have hy1 : (cellsO dy).length = ny * 21 := by rw [cellsO_len, HLY.out.hl, HNY.out]
  have hz1 : (cellsO dz).length = nz * 21 := by rw [cellsO_len, HLZ.out.hl, HNZ.out]
  have HY1 := hd hy1
  have HZ1 := hd hz1
  have hccc : nz + ny ≤ cc := by have := HCC.out; rw [HZY.out] at this; exact this
  rw [HNY.out, HNZ.out, HZY.out]
  clear hy1 hz1 HL HG HCC HCY HCZ
  go_wp2_with (first
    | ((with_reducible refine gd_appg (xs := #[.const (.slice none 0 0), .tmp 63]) ?_); refine wpList_wanted (by rfl) ?_; refine wpList_append_G0 opG w8 rfl _ _ rfl w8.heap.size rfl Az nz cz w8.heap.size (cellsO dz) rfl HZ1.out HLZ.out.hv (cellsO_all _) (by unfold maxLen; omega) (by omega) (Nat.le_refl _) ?_; intro As cs9 w9 hr9 hb9 _; have HR9 := hd hr9; have HB9 := hd hb9; clear hr9 hb9)
    | ((with_reducible refine gd_appg (xs := #[.tmp 64, .tmp 65]) ?_); refine wpList_wanted (by rfl) ?_; refine wpList_append_GX opG w9 rfl _ _ rfl w8.heap.size (.slice As nz cs9) nz (cellsO dz) rfl HR9.out Ay ny cy w9.heap.size (cellsO dy) rfl HY1.out (HLY.out.later HB9.out).hv (cellsO_all _) (by unfold maxLen; omega) (by omega) HB9.out.size ?_; intro At ct w10 hr10 hg10 _; have HB10 := hd (joined_row HB9.out HB9.out.size HR9.out hg10); have HR10 := hd hr10; clear hr10 hg10)
    | (go_at_call 19; refine Calls.mono (sameall_at (HLC.out.later HB10.out) (parts_lo HR10.out HLZ.out HLY.out HB10.out) HZY.out HZY.out (by omega) hccc (own_capO HR10.out) HTY.out HTY.out HSM.out) ?_; rintro e w11 ⟨rfl, b9⟩; have HB := hd (step_b (step_b HB.out HB10.out) b9); clear b9))
  go_ret
  exact ⟨rfl, HB.out⟩
set_option maxRecDepth 4000 in
theorem bparts_law (w : World) (A B : Option Addr) (us vs : List OpP) (cap dap : Nat) (_ : us.length ≤ cap) (_ : vs.length ≤ dap) (n63 : us.length ≤ 9223372036854775807) (m63 : vs.length ≤ 9223372036854775807) (h : ∃ ds, LO w A ds us) (g : ∃ es, LO w B es vs) : Calls Try.prog 6 #[.slice A us.length cap, .slice B vs.length dap] w (AllTrue w) := by
  obtain ⟨ds, h⟩ := h
  obtain ⟨es, g⟩ := g
  cases hf : fewAllO us 12
  · exact bparts_0 w A B us vs _ _ cap dap ds es h g rfl rfl n63 m63 hf
  cases hg : fewAllO vs 12
  · exact bparts_0b w A B us vs _ _ cap dap ds es h g rfl rfl n63 m63 hf hg
  obtain ⟨tu, lu⟩ := few_all hf
  obtain ⟨tv, lv⟩ := few_all hg
  have hj := all_app us vs
  obtain ⟨⟨ys, er⟩, hu⟩ : ∃ r, allO us = r := ⟨_, rfl⟩
  obtain ⟨⟨zs, fr⟩, hv⟩ : ∃ r, allO vs = r := ⟨_, rfl⟩
  rw [hu, hv] at hj
  by_cases h1 : fr = 0
  · subst h1
    rw [if_pos rfl] at hj
    by_cases h2 : er = 0
    · subst h2
      rw [if_pos rfl] at hj
      have e1 := all_len (l := us) (by rw [hu])
      have e2 := all_len (l := vs) (by rw [hv])
      have t1 := all_tiny tu (fun a => inv_tiny)
      have t2 := all_tiny tv (fun a => inv_tiny)
      rw [hu] at e1 t1
      rw [hv] at e2 t2
      exact bparts_ok w A B us vs ys zs _ _ cap dap ds es h g rfl rfl (by omega) (by omega) hf hg tu tv hu hv hj _ _ rfl rfl (by dsimp only at e1; omega) (by dsimp only at e2; omega) (tiny_app t2 t1)
    · rw [if_neg h2] at hj
      exact bparts_e w A B us vs ys zs er _ _ cap dap ds es h g rfl rfl (by omega) (by omega) hf hg tu tv hu hv (by simpa using h2) hj
  · rw [if_neg h1] at hj
    exact bparts_f w A B us vs ys zs er fr _ _ cap dap ds es h g rfl rfl (by omega) (by omega) hf hg tu tv hu hv (by simpa using h1) hj

end Go.Proofs.Ytdjajpookmmafaa
