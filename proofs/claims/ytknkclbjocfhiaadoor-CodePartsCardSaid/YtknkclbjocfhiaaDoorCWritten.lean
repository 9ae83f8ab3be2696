/- A strings.Builder of a call's own: what writing to it does. Trees written: writeProps, write, Print. -/
import Derived.Test.YtknkclbjocfhiaaDoorCLay
import Derived.Test.YtknkclbjocfhiaaDoorGQuote
import Derived.Test.YtknkclbjocfhiaaDoorCPlain
import Derived.Lib.AppendStr
import Derived.Lib.Builder
import Derived.Lib.OthersKept
namespace Go.Proofs.YtknkclbjocfhiaaDoor
open Go.RowKit

/-- The builder in block b holds the bytes l; its own rows lie from B on. -/
def Buf (B b : Nat) (l : List UInt8) (w : World) : Prop := Lib.IsBuilder 54 5 B b (bv l) w
set_option maxRecDepth 4000 in
theorem bufSize : (Tryd.prog.info? 54).map (·.size) = some 2 := by kernel_rfl
set_option maxRecDepth 4000 in
theorem bufLies : liesAt Tryd.prog Tryd.prog.depth 54 (2 / Tryd.prog.cellsOf 54) 0 54 1 = true := by kernel_rfl
set_option maxRecDepth 4000 in
theorem bufNe : 54 ≠ 5 := by decide

set_option maxHeartbeats 1000000 in
set_option maxRecDepth 100000 in
theorem ccheck_used (b : Nat) (w : World) (h0 : w.cell? ⟨b, 0, none⟩ = some (.pointer (some ⟨b, 0, none⟩))) :
    Calls Tryd.prog 69 #[.pointer (some ⟨b, 0, none⟩)] w fun e w' => e = .returned (.tuple #[]) ∧ w' = w := by
  obtain ⟨j, hj, _⟩ := Option.map_eq_some_iff.1 bufSize
  go_enter Tryd.func69, Tryd.ntmps69
  go_wp2
  rw [Lib.run_neq_ptr_same _ _ Tryd.underlying52 hj]
  go_wp2
  go_end0
  exact ⟨rfl, rfl⟩

set_option maxHeartbeats 1000000 in
set_option maxRecDepth 100000 in
theorem ccheck_fresh (b : Nat) (w : World) (h0 : w.cell? ⟨b, 0, none⟩ = some (.pointer none)) (hsh : w.shape? b = some (54, 2)) (hfz : w.frozen? ⟨b, 0, none⟩ = false) :
    Calls Tryd.prog 69 #[.pointer (some ⟨b, 0, none⟩)] w fun e w' => e = .returned (.tuple #[]) ∧ w' = w.setCell ⟨b, 0, none⟩ (.pointer (some ⟨b, 0, none⟩)) := by
  obtain ⟨j, hj, hjs⟩ := Option.map_eq_some_iff.1 bufSize
  go_enter Tryd.func69, Tryd.ntmps69
  go_wp2
  rw [Lib.run_to_unsafe _ ⟨b, 0, none⟩ Tryd.underlying52 Tryd.underlying102 hj (by rw [hjs]; decide) hsh (Nat.zero_lt_succ 1)]
  simp only [Result.andThen]
  rw [Oper.upon_value]
  go_wp2
  rw [run_callFunc_extern Tryd.func84 (by kernel_rfl) (by kernel_rfl) (by kernel_rfl) (e := Extern.AbiNoEscape.same) (by kernel_rfl)]
  rw [Lib.run_noEscape]
  simp only [Result.andThen]
  rw [Oper.upon_value]
  go_wp2
  rw [Lib.run_from_unsafe _ ⟨b, 0, none⟩ Tryd.underlying102 Tryd.underlying52 hj hsh bufLies]
  simp only [Result.andThen]
  rw [Oper.upon_value]
  go_wp2
  go_end0
  exact ⟨rfl, rfl⟩

set_option maxRecDepth 4000 in
theorem ccheck_any (B b : Nat) (l : List UInt8) (w : World) (h : Buf B b l w) :
    Calls Tryd.prog 69 #[.pointer (some ⟨b, 0, none⟩)] w fun e w' => e = .returned (.tuple #[]) ∧ (Lib.BuilderAt 54 5 B b (.pointer (some ⟨b, 0, none⟩)) (bv l) w' ∧ Below B w w' ∧ Lib.OthersKept 5 (some b) w w') := by
  rcases h with h | h
  · refine (ccheck_fresh b w h.cell0 h.shape h.frozen0).mono ?_
    rintro e w' ⟨rfl, rfl⟩
    exact ⟨rfl, h.used _, (Below.refl B w).setCell (p := ⟨b, 0, none⟩) h.1 _, (Lib.OthersKept.refl _ _ _).setCell ⟨b, 0, none⟩ rfl _⟩
  · refine (ccheck_used b w h.cell0).mono ?_
    rintro e w' ⟨rfl, rfl⟩
    exact ⟨rfl, h, Below.refl B _, Lib.OthersKept.refl _ _ _⟩

/-- More bytes: what a write leaves. -/
structure Wr (B b : Nat) (l : List UInt8) (w w' : World) : Prop where
  buf : Buf B b l w'
  below : Below B w w'
  others : Lib.OthersKept 5 (some b) w w'
def Wrote (B b : Nat) (l : List UInt8) (v : Value) (w : World) (e : Ending) (w' : World) : Prop := e = .returned v ∧ Wr B b l w w'
set_option maxRecDepth 4000 in
theorem Wr.trans {B b : Nat} {l l' : List UInt8} {w w1 w2 : World} (h : Wr B b l w w1) (k : Wr B b l' w1 w2) : Wr B b l' w w2 := ⟨k.buf, h.below.trans k.below, h.others.trans k.others⟩
set_option maxRecDepth 4000 in
theorem Buf.le {B b : Nat} {l : List UInt8} {w : World} (h : Buf B b l w) : B ≤ b ∧ b < w.heap.size := by
  rcases h with h | h
  · exact ⟨h.1, h.lt⟩
  · exact ⟨h.1, h.lt⟩
set_option maxRecDepth 4000 in
theorem Wr.size {B b : Nat} {l : List UInt8} {w w1 : World} (h : Wr B b l w w1) : w.heap.size ≤ w1.heap.size := h.below.size
set_option maxRecDepth 4000 in
/-- A block of other things, made by the call, is kept. -/
theorem Wr.box {B b k : Nat} {l : List UInt8} {w w1 : World} {cs : Array Value} {t : TypeId} {fz : Nat × Nat} (h : Wr B b l w w1) (hk : w.heap[k]? = some (.cells cs t fz)) (ht : t ≠ 5) (hb : k ≠ b) : w1.heap[k]? = some (.cells cs t fz) :=
  h.others k _ hk (fun e => hb (Option.some.inj e)) (fun c fz' e => ht (by injection e))
set_option maxRecDepth 4000 in
theorem row_kind {w : World} {B : Nat} {v : Value} {n : Nat} {xs : List Value} (h : w.ownsRow B 5 1 v n xs) : ∀ g, v.ownBlock = some g → ∃ c fz, w.heap[g]? = some (.cells c 5 fz) := Lib.ownsRowF_kind (World.ownsRowF_of h)
set_option maxRecDepth 4000 in
theorem Buf.grow {B b : Nat} {v v' : Value} {l' : List UInt8} {w1 w2 : World} {n : Nat} (hB : B ≤ b) (hlt : b < w1.heap.size) (hbk : w1.heap[b]? = some (.cells #[.pointer (some ⟨b, 0, none⟩), v] 54 (0, 0))) (hne : v.ownBlock ≠ some b) (hgrow : w1.grownBy w2 v.ownBlock) (hown' : w2.ownsRow B 5 1 v' n (bv l')) (hn : n = l'.length) :
    w2.heap[b]? = some (.cells #[.pointer (some ⟨b, 0, none⟩), v] 54 (0, 0)) ∧ Buf B b l' (w2.setCell ⟨b, 1, none⟩ v') := by
  have hb2 : w2.heap[b]? = some (.cells #[.pointer (some ⟨b, 0, none⟩), v] 54 (0, 0)) := by
    rw [hgrow.block b hlt (fun e => hne e.symm)]
    exact hbk
  refine ⟨hb2, .inr (Lib.BuilderAt.put (T := 54) (e := 5) hB hb2 (bs' := bv l') ?_ bufNe)⟩
  rw [bv_len, ← hn]; exact hown'

set_option maxHeartbeats 2000000 in
set_option maxRecDepth 100000 in
theorem wbyte_any (B b : Nat) (l : List UInt8) (c : UInt8) (z : Int) (hz : z = c.toNat) (w : World) (h : Buf B b l w) (hlen : l.length ≤ 2000000) (hBw : B ≤ w.heap.size) :
    Calls Tryd.prog 47 #[.pointer (some ⟨b, 0, none⟩), .int .u8 z] w (Wrote B b (l ++ [c]) .nilIface w) := by
  obtain ⟨i0, hi, hz0, hz1, hz2⟩ := info_parts byteInfo
  have HZ := hd hz
  clear hz
  go_enter Tryd.func47, Tryd.ntmps47
  go_wp2_with (go_at_call 69; refine (ccheck_any B b l _ h).mono ?_)
  rintro e w1 ⟨rfl, h1, hb1, ho1⟩
  have hlt := h1.lt
  obtain ⟨hB, v, hbk, hown, hne⟩ := h1
  have c0 : w1.cell? ⟨b, 0, none⟩ = some (.pointer (some ⟨b, 0, none⟩)) := by rw [Lib.cell_of_heap hbk]; rfl
  have c1 : w1.cell? ⟨b, 1, none⟩ = some v := by rw [Lib.cell_of_heap hbk]; rfl
  rw [bv_len] at hown
  go_wp2_with (at_builtin; refine wpList_append_own _ rfl _ _ 39 rfl B 5 i0 (.int .u8 0) 1 1 Tryd.underlying39 hi hz0 hz1 hz2 rfl (by decide) _ _ _ rfl (hown.alloc _) ⟨w1.heap.size, 0, none⟩ 1 1 [.int .u8 z] rfl rfl ?c1 ?c2 ?c3 ?c4 ?c5 ?_)
  case c1 =>
    intro j u hj
    match j, hj with
    | 0, hj => simp at hj; subst hj; simp [Addr.add]
  case c2 => intro u hu; simp at hu; subst hu; rfl
  case c3 => unfold maxLen; omega
  case c4 => omega
  case c5 => have := hb1.size; simp; omega
  intro v' w2 hown' hgrow _
  have hw1a : (w1.alloc (.cells #[.int .u8 z] 5)).heap[b]? = some (.cells #[.pointer (some ⟨b, 0, none⟩), v] 54 (0, 0)) := by
    rw [Below.heap_alloc _ _ _ hlt]; exact hbk
  have e1 : bv l ++ [.int .u8 z] = bv (l ++ [c]) := by rw [bv_append, HZ.out]; rfl
  rw [e1] at hown'
  obtain ⟨hb2, hB2⟩ := Buf.grow hB (by simp; omega) hw1a hne hgrow hown' (by simp)
  have d0 : w2.cell? ⟨b, 0, none⟩ = some (.pointer (some ⟨b, 0, none⟩)) := by rw [Lib.cell_of_heap hb2]; rfl
  have d1 : w2.cell? ⟨b, 1, none⟩ = some v := by rw [Lib.cell_of_heap hb2]; rfl
  have f1 : w2.frozen? ⟨b, 1, none⟩ = false := Lib.frozen_of_heap hb2 1
  obtain ⟨g, cap, rfl⟩ : ∃ g cap, v' = .slice (some ⟨g, 0, none⟩) (l.length + 1) cap := by
    rcases hown'.2 with ⟨_, h0⟩ | ⟨g, cap, cur, hv, _⟩
    · omega
    · exact ⟨g, cap, hv⟩
  clear e1 hw1a
  go_wp2
  go_ret
  exact ⟨rfl, hB2, ((hb1.alloc (by have := hb1.size; omega) _).grown hgrow (by have := hb1.size; simp; omega) (fun k hk => (hown.lt k hk).1)).setCell (p := ⟨b, 1, none⟩) hB _, ((ho1.alloc _).grown hgrow (row_kind (hown.alloc _))).setCell ⟨b, 1, none⟩ rfl _⟩

set_option maxHeartbeats 2000000 in
set_option maxRecDepth 100000 in
theorem wstr_any (B b : Nat) (l : List UInt8) (s : ByteArray) (w : World) (h : Buf B b l w) (hlen : l.length + s.size ≤ 2000000) (hBw : B ≤ w.heap.size) :
    Calls Tryd.prog 46 #[.pointer (some ⟨b, 0, none⟩), .string s] w (Wrote B b (l ++ s.data.toList) (.tuple #[.int .i64 s.size, .nilIface]) w) := by
  obtain ⟨i0, hi, hz0, hz1, hz2⟩ := info_parts byteInfo
  go_enter Tryd.func46, Tryd.ntmps46
  go_wp2_with (go_at_call 69; refine (ccheck_any B b l _ h).mono ?_)
  rintro e w1 ⟨rfl, h1, hb1, ho1⟩
  have hlt := h1.lt
  obtain ⟨hB, v, hbk, hown, hne⟩ := h1
  have c0 : w1.cell? ⟨b, 0, none⟩ = some (.pointer (some ⟨b, 0, none⟩)) := by rw [Lib.cell_of_heap hbk]; rfl
  have c1 : w1.cell? ⟨b, 1, none⟩ = some v := by rw [Lib.cell_of_heap hbk]; rfl
  rw [bv_len] at hown
  go_wp2_with (at_builtin; refine Lib.wpList_append_own_string _ rfl _ _ 39 9 rfl B 5 i0 Tryd.underlying39 Tryd.underlying9 hi hz0 hz1 hz2 _ _ _ rfl hown s rfl ?c3 ?c4 ?c5 ?_)
  case c3 => unfold maxLen; omega
  case c4 => omega
  case c5 => have := hb1.size; omega
  intro v' w2 hown' hgrow _
  have e1 : bv l ++ Lib.strCells s = bv (l ++ s.data.toList) := by rw [bv_append]; rfl
  rw [e1] at hown'
  obtain ⟨hb2, hB2⟩ := Buf.grow hB hlt hbk hne hgrow hown' (by rw [List.length_append, data_size])
  have d0 : w2.cell? ⟨b, 0, none⟩ = some (.pointer (some ⟨b, 0, none⟩)) := by rw [Lib.cell_of_heap hb2]; rfl
  have d1 : w2.cell? ⟨b, 1, none⟩ = some v := by rw [Lib.cell_of_heap hb2]; rfl
  have f1 : w2.frozen? ⟨b, 1, none⟩ = false := Lib.frozen_of_heap hb2 1
  obtain ⟨ao, n', cap, rfl⟩ : ∃ ao n' cap, v' = .slice ao n' cap := by
    rcases hown'.2 with ⟨hv, _⟩ | ⟨g, cap, cur, hv, _⟩
    · exact ⟨_, _, _, hv⟩
    · exact ⟨_, _, _, hv⟩
  clear e1
  go_wp2
  go_ret2
  exact ⟨rfl, hB2, (hb1.grown hgrow (by have := hb1.size; omega) (fun k hk => (hown.lt k hk).1)).setCell (p := ⟨b, 1, none⟩) hB _, (ho1.grown hgrow (row_kind hown)).setCell ⟨b, 1, none⟩ rfl _⟩

set_option maxRecDepth 4000 in
theorem bstr_any (B b : Nat) (l : List UInt8) (w : World) (h : Buf B b l w) (hBw : B ≤ w.heap.size) :
    Calls Tryd.prog 25 #[.pointer (some ⟨b, 0, none⟩)] w fun e w' => e = .returned (.string (bs l)) ∧ Below B w w' := Builder_String_any B b l w h hBw
set_option maxRecDepth 4000 in
/-- A builder that a call has made. -/
theorem Buf.new (w : World) : Buf w.heap.size w.heap.size [] (w.alloc (.cells #[.pointer none, .slice none 0 0] 54)) :=
  .inl ⟨Nat.le_refl _, .slice none 0 0, by show (w.heap.push _)[w.heap.size]? = _; simp, World.ownsRow_nil _ _ _ _, by simp [Value.ownBlock]⟩
set_option maxRecDepth 4000 in
theorem Buf.below {B b : Nat} {l : List UInt8} {w w' : World} (h : Buf B b l w) (hb : Below w.heap.size w w') : Buf B b l w' := by
  have key : ∀ p, Lib.BuilderAt 54 5 B b p (bv l) w → Lib.BuilderAt 54 5 B b p (bv l) w' := by
    rintro p ⟨hB, v, hbk, hown, hne⟩
    have hlt := (Array.getElem?_eq_some_iff.1 hbk).1
    refine ⟨hB, v, by rw [hb.block b hlt]; exact hbk, ⟨hown.1, ?_⟩, hne⟩
    rcases hown.2 with h4 | ⟨g, cap, cur, e2, hbg, hg, rest⟩
    · exact .inl h4
    · refine .inr ⟨g, cap, cur, e2, hbg, ?_, rest⟩
      rw [hb.block g (Array.getElem?_eq_some_iff.1 hg).1]
      exact hg
  rcases h with h | h
  · exact .inl (key _ h)
  · exact .inr (key _ h)

end Go.Proofs.YtknkclbjocfhiaaDoor

namespace Go.Proofs.YtknkclbjocfhiaaDoor
open Go.RowKit

theorem prT_snoc (a : UInt8) (l : List Pr) (p : Pr) : prT a (l ++ [p]) = prT a l ++ (if l = [] then a else 44) :: (p.1.data.toList ++ 58 :: p.2.data.toList) := by
  induction l generalizing a with
  | nil => simp [prT]
  | cons q r ih =>
    simp only [List.cons_append, prT, ih 44, List.append_assoc]
    cases r <;> simp
def ahd (k : Nat) : UInt8 := if k = 0 then 123 else 44
set_option maxRecDepth 4000 in
theorem prT_take (l : List Pr) (k : Nat) (h : k < l.length) : prT 123 (l.take (k + 1)) = prT 123 (l.take k) ++ ahd k :: ((prAt l k).1.data.toList ++ 58 :: (prAt l k).2.data.toList) := by
  rw [take_one (prAt_get h), prT_snoc]
  unfold ahd
  cases k with
  | zero => simp
  | succ k =>
    have : l.take (k + 1) ≠ [] := by
      intro e
      have := congrArg List.length e
      rw [List.length_take, List.length_nil] at this
      omega
    rw [if_neg this, if_neg (by omega)]
set_option maxRecDepth 4000 in
theorem prT_len (l : List Pr) (k : Nat) : (prT 123 (l.take k)).length ≤ (prT 123 l).length := by
  have key : ∀ (a : UInt8) (x y : List Pr), (prT a x).length ≤ (prT a (x ++ y)).length := by
    intro a x
    induction x generalizing a with
    | nil => intro y; simp [prT]
    | cons p r ih => intro y; have := ih 44 y; simp only [List.cons_append, prT, List.length_cons, List.length_append]; omega
  have := key 123 (l.take k) (l.drop k)
  rwa [List.take_append_drop] at this
set_option maxRecDepth 4000 in
theorem propsT_eq (l : List Pr) (h : 0 < l.length) : propsT l = prT 123 l ++ [125] := by
  cases l with
  | nil => simp at h
  | cons p r => rfl
set_option maxRecDepth 4000 in
/-- What a call that writes leaves. -/
theorem boxAt (w : World) (cs : Array Value) (t : TypeId) : (w.alloc (.cells cs t)).heap[w.heap.size]? = some (.cells cs t (0, 0)) := by
  show (w.heap.push _)[w.heap.size]? = _; simp
set_option maxRecDepth 4000 in
theorem Wr.alloc {B b : Nat} {l : List UInt8} {w w1 : World} (h : Wr B b l w w1) (o : Obj) : Wr B b l w (w1.alloc o) := by
  have hB := h.buf.le
  exact ⟨h.buf.below ((Below.refl _ _).alloc (Nat.le_refl _) _), h.below.alloc (by omega) _, h.others.alloc _⟩

set_option maxRecDepth 4000 in
set_option maxHeartbeats 4000000 in
theorem wprops_any (B b : Nat) (l : List UInt8) (A : Option Addr) (ps : List Pr) (c : Nat) (w : World) (hb : Buf B b l w) (hlen : l.length + (propsT ps).length ≤ 1000000) (hl : ps.length ≤ 16) (hp : PL w B A ps) :
    Calls Tryd.prog 45 #[.pointer (some ⟨b, 0, none⟩), .slice A ps.length c] w (Wrote B b (l ++ propsT ps) (.tuple #[]) w) := by
  have hle := hb.le
  have HB := hd hb
  have HP := hd hp
  clear hb hp
  by_cases h0 : ps.length = 0
  · have HE := hd (show l ++ propsT ps = l by rw [List.eq_nil_of_length_eq_zero h0]; simp [propsT])
    have h0i : ((ps.length : Int) == 0) = true := by simp [h0]
    go_enter Tryd.func45, Tryd.ntmps45
    go_wp2
    go_end0
    exact ⟨rfl, by rw [HE.out]; exact ⟨HB.out, Below.refl _ _, Lib.OthersKept.refl _ _ _⟩⟩
  · have HQ := hd (propsT_eq ps (by omega))
    have HL := fun k => prT_len ps k
    have hq : (propsT ps).length = (prT 123 ps).length + 1 := by rw [HQ.out]; simp
    have h0i : ((ps.length : Int) == 0) = false := by rw [beq_eq_false_iff_ne]; omega
    obtain ⟨N, hN⟩ : ∃ N, N = (prT 123 ps).length := ⟨_, rfl⟩
    rw [← hN] at HL hq
    have HL := hd HL
    rw [hq] at hlen
    clear hq hN
    go_enter Tryd.func45, Tryd.ntmps45
    go_wp2
    go_loopw [4, 12] (fun x i wr => ∃ (k : Nat) (z : Int), k ≤ ps.length ∧ x = .int .u8 z ∧ i = .int .i64 k ∧ Hid (z = (ahd k).toNat) ∧ Hid (Wr B b (l ++ prT 123 (ps.take k)) w wr)) (fun _ i _ => ps.length - (intOf i).toNat)
    case atStart => exact ⟨0, 123, Nat.zero_le _, rfl, rfl, rfl, by rw [List.take_zero]; simp [prT]; exact ⟨HB.out, Below.refl _ _, Lib.OthersKept.refl _ _ _⟩⟩
    case round =>
      obtain ⟨k, z, hk, rfl, rfl, HZ, HW⟩ := hrel
      have hsz := HW.out.size
      by_cases hlt : k < ps.length
      · obtain ⟨g, o, rfl, hlb, c1, c2⟩ := (HP.out.below HW.out.below).at_ hlt
        have HT := hd (prT_take ps k hlt)
        have hlk := HL.out (k + 1)
        have hlj := HL.out k
        rw [HT.out] at hlk
        obtain ⟨K, hK⟩ : ∃ K, K = (prAt ps k).1 := ⟨_, rfl⟩
        obtain ⟨V, hV⟩ : ∃ V, V = (prAt ps k).2 := ⟨_, rfl⟩
        rw [← hK, ← hV] at HT hlk
        rw [← hK] at c1
        rw [← hV] at c2
        obtain ⟨D, hD⟩ : ∃ D, D = prT 123 (ps.take k) := ⟨_, rfl⟩
        rw [← hD] at HT hlk hlj HW
        have dK := data_size K
        have dV := data_size V
        simp only [List.length_append, List.length_cons, dK, dV] at hlk
        have hg : g < wr.heap.size := by omega
        have HW1 := hd (HW.out.alloc (.cells #[.string K, .string V] 50))
        have hx1 := boxAt wr #[.string K, .string V] 50
        have hs1 : wr.heap.size ≠ b := by omega
        obtain ⟨G, hG⟩ : ∃ G, G = wr.heap.size := ⟨_, rfl⟩
        have HC1 := hd (wbyte_any B b (l ++ D) (ahd k) z HZ.out _ HW1.out.buf (by simp; omega) (by simp; omega))
        have HX1 := hd hx1
        clear hK hV hD dK dV hx1 HZ
        go_wp2_with fail
        refine HC1.out.mono ?_
        intro e w2 h2
        obtain ⟨rfl, h2⟩ := h2
        have HX2 := hd (h2.box HX1.out (by decide) hs1)
        have k1 : w2.cell? ⟨wr.heap.size, 0, none⟩ = some (.string K) := by rw [Lib.cell_of_heap HX2.out]; rfl
        have HW2 := hd (HW1.out.trans h2)
        have hs2 := HW2.out.size
        have HC2 := hd (wstr_any B b _ K w2 HW2.out.buf (by simp; omega) (by omega))
        clear h2
        go_wp2_with fail
        refine HC2.out.mono ?_
        intro e w3 h3
        obtain ⟨rfl, h3⟩ := h3
        have HX3 := hd (h3.box HX2.out (by decide) hs1)
        have HW3 := hd (HW2.out.trans h3)
        have hs3 := HW3.out.size
        have HC3 := hd (wbyte_any B b _ 58 58 rfl w3 HW3.out.buf (by simp; omega) (by omega))
        clear h3 k1
        go_wp2_with fail
        refine HC3.out.mono ?_
        intro e w4 h4
        obtain ⟨rfl, h4⟩ := h4
        have HX4 := hd (h4.box HX3.out (by decide) hs1)
        have k2 : w4.cell? ⟨wr.heap.size, 1, none⟩ = some (.string V) := by rw [Lib.cell_of_heap HX4.out]; rfl
        have HW4 := hd (HW3.out.trans h4)
        have hs4 := HW4.out.size
        have HC4 := hd (wstr_any B b _ V w4 HW4.out.buf (by simp; omega) (by omega))
        clear h4
        go_wp2_with fail
        refine HC4.out.mono ?_
        intro e w5 h5
        obtain ⟨rfl, h5⟩ := h5
        have HW5 := hd (HW4.out.trans h5)
        clear h5
        go_wp2
        go_roundw
        case rel => exact ⟨k + 1, 44, by omega, rfl, by go_num, by unfold ahd; rw [if_neg (by omega)]; rfl, by rw [HT.out]; have := HW5.out; exact hd (by simpa using this)⟩
        case measure => simp [intOf]; omega
      · have HE := hd (show ps.take k = ps from List.take_of_length_le (by omega))
        rw [HE.out] at HW
        have hlj := HL.out ps.length
        rw [List.take_length] at hlj
        have HC1 := hd (wbyte_any B b _ 125 125 rfl wr HW.out.buf (by simp; omega) (by omega))
        go_wp2_with fail
        refine HC1.out.mono ?_
        intro e w2 h2
        obtain ⟨rfl, h2⟩ := h2
        go_wp2
        go_end0
        exact ⟨rfl, by have := HW.out.trans h2; rw [HQ.out, ← List.append_assoc]; exact this⟩

set_option maxRecDepth 4000 in
theorem quoR_yes' {l : List Int} (h : okR l = true) : quoR l = quoL l := by unfold quoR; rw [h]; rfl
set_option maxRecDepth 4000 in
/-- A tree's parts are no longer than its text. -/
theorem txtK_take {ks : List NT} {k : Nat} {n : NT} (h : ks[k]? = some n) : txtK (ks.take (k + 1)) = txtK (ks.take k) ++ txtT n := by
  rw [take_one h, txtK_append]; simp [txtK]
set_option maxRecDepth 4000 in
theorem txtK_len (ks : List NT) (k : Nat) : (txtK (ks.take k)).length ≤ (txtK ks).length := by
  have := congrArg List.length (txtK_append (ks.take k) (ks.drop k))
  rw [List.take_append_drop, List.length_append] at this
  omega
set_option maxRecDepth 4000 in
theorem chkK_at {ks : List NT} {k : Nat} {m : NT} (h : chkK ks = 0) (hm : ks[k]? = some m) : chkT m = 0 := chkK_all h m (List.mem_of_getElem? hm)

set_option maxRecDepth 4000 in
theorem Tab.low {w w' : World} {B : Nat} (h : Tab w) (h4 : 4 ≤ B) (hb : Below B w w') : Tab w' :=
  ⟨(hb.cell (p := ⟨3, 15, none⟩) (by simp; omega)).trans h.1, Nat.lt_of_lt_of_le h.2 hb.size⟩
set_option maxRecDepth 4000 in
theorem Wr.later {B b : Nat} {l : List UInt8} {w w1 w2 : World} (h : Wr B b l w w1) (k : Below w1.heap.size w1 w2) : Wr B b l w w2 := by
  have hB := h.buf.le
  refine ⟨h.buf.below k, h.below.trans (k.mono (by omega)), fun i o hi hb ho => ?_⟩
  have h1 := h.others i o hi hb ho
  rw [k.block i (Array.getElem?_eq_some_iff.1 h1).1]
  exact h1
set_option maxRecDepth 4000 in
theorem cell4 {w : World} {g : Nat} {a b c d : Value} {t : TypeId} {fz : Nat × Nat} (h : w.heap[g]? = some (.cells #[a, b, c, d] t fz)) :
    w.cell? ⟨g, 0, none⟩ = some a ∧ w.cell? ⟨g, 1, none⟩ = some b ∧ w.cell? ⟨g, 2, none⟩ = some c ∧ w.cell? ⟨g, 3, none⟩ = some d := by
  refine ⟨?_, ?_, ?_, ?_⟩ <;> (rw [Lib.cell_of_heap h]; rfl)

set_option maxRecDepth 4000 in
set_option maxHeartbeats 8000000 in
theorem write_any (B b : Nat) (h4 : 4 ≤ B) : ∀ (d : Nat) (l : List UInt8) (w : World) (v : Value) (n : NT), Hid (Tab w) → Buf B b l w → NodeAt d w B v n → chkT n = 0 → sizeT n ≤ 1000 → l.length + (txtT n).length ≤ 900000 →
      Calls Tryd.prog 24 #[.pointer (some ⟨b, 0, none⟩), v] w (Wrote B b (l ++ txtT n) (.tuple #[]) w) := by
  intro d
  induction d with
  | zero => intro l w v n _ _ h; exact h.elim
  | succ d ih =>
    intro l w v n hT hb hn hc hs hlen
    obtain ⟨d1, lf, ps, tx, ks, PA, pc, TA, tc, KA, kc, hd1, rfl, rfl, hp, ht, hf, hks⟩ := hn.open_
    obtain rfl : d = d1 := by omega
    obtain ⟨e1, e2⟩ := chkT_zero hc
    obtain ⟨p1, p2, p3, p4⟩ := oneE_parts e1
    have p16 := chk_len p1
    have hle := hb.le
    have hl2 := hf.2.2.1
    have hl3 := hf.2.2.2.1
    simp only [sizeT] at hs
    have HKS := hd hks
    have HT := hd ht
    obtain ⟨W1, hW1⟩ : ∃ W1, W1 = w.alloc (.cells #[.bool lf, .slice PA ps.length pc, .slice TA tx.length tc, .slice KA ks.length kc] 26) := ⟨_, rfl⟩
    have w0 : Wr B b l w w := ⟨hb, Below.refl _ _, Lib.OthersKept.refl _ _ _⟩
    have HW1 := hd (hW1 ▸ w0.alloc (.cells #[.bool lf, .slice PA ps.length pc, .slice TA tx.length tc, .slice KA ks.length kc] 26))
    have HX1 := hd (hW1 ▸ boxAt w #[.bool lf, .slice PA ps.length pc, .slice TA tx.length tc, .slice KA ks.length kc] 26)
    have hs1 : w.heap.size ≠ b := by omega
    have hz1 : W1.heap.size = w.heap.size + 1 := by rw [hW1]; simp
    have hlp : l.length + (propsT ps).length ≤ 900000 := by rw [txtT, List.length_append] at hlen; omega
    have HC1 := hd (wprops_any B b l PA ps pc W1 HW1.out.buf (by omega) p16 (hp.below HW1.out.below))
    cases lf
    · have h0 : tx = [] := p4 rfl
      have hlt := txtT_elem ps tx ks
      have HE := hd (show l ++ txtT (.mk false ps tx ks) = (l ++ propsT ps ++ [91]) ++ txtK ks ++ [93] by rw [txtT]; simp)
      have HL := hd (fun k => txtK_len ks k)
      rw [hlt] at hlen
      have HCK := hd (fun (k : Nat) (m : NT) (hm : ks[k]? = some m) => (⟨chkK_at e2 hm, by have := sizeK_mem hm; omega⟩ : chkT m = 0 ∧ sizeT m ≤ 1000))
      have HTK := hd (fun (k : Nat) (m : NT) (hm : ks[k]? = some m) => txtK_take hm)
      rw [HE.out]
      clear hn hc hb hp ht hf hks e1 e2 p1 p2 p3 p4 p16 h0 hlt w0 hs hd1
      subst hW1
      go_enter Tryd.func24, Tryd.ntmps24
      go_wp2_with fail
      refine HC1.out.mono ?_
      intro e w2 h2
      obtain ⟨rfl, h2⟩ := h2
      have HX2 := hd (h2.box HX1.out (by decide) hs1)
      have HW2 := hd (HW1.out.trans h2)
      obtain ⟨x0, x1, x2, x3⟩ := cell4 HX2.out
      have hs2 := HW2.out.size
      have HC2 := hd (wbyte_any B b _ 91 91 rfl w2 HW2.out.buf (by simp; omega) (by omega))
      clear h2 x1 x2 x3
      go_wp2_with fail
      refine HC2.out.mono ?_
      intro e w3 h3
      obtain ⟨rfl, h3⟩ := h3
      have HX3 := hd (h3.box HX2.out (by decide) hs1)
      have HW3 := hd (HW2.out.trans h3)
      obtain ⟨y0, y1, y2, y3⟩ := cell4 HX3.out
      have hs3 := HW3.out.size
      clear h3 x0 y0 y1 y2
      go_wp2
      clear y3
      obtain ⟨L, hL⟩ : ∃ L, L = l ++ propsT ps ++ [91] := ⟨_, rfl⟩
      have hLl : L.length + (txtK ks).length + 1 ≤ 900000 := by rw [hL]; simp; omega
      rw [← hL] at HW3
      have HLL := hd hL
      have HT0 := hd (hT.out.low h4 HW3.out.below)
      clear hL HX1 HX2 HX3 HW2 HC1 HC2 HW1 HE
      obtain ⟨w0, hw0⟩ : ∃ w0 : World, w0 = w3 := ⟨_, rfl⟩
      subst hw0
      go_loopw [28] (fun i wr => ∃ k : Nat, k ≤ ks.length ∧ i = .int .i64 k ∧ Hid (Wr B b (L ++ txtK (ks.take k)) w wr)) (fun i _ => ks.length - (intOf i).toNat)
      case atStart => exact ⟨0, Nat.zero_le _, rfl, by rw [List.take_zero, txtK, List.append_nil]; exact HW3⟩
      case round =>
        clear HW3 HT0
        obtain ⟨k, hk, rfl, HW⟩ := hrel
        have hsz := HW.out.size
        have hk2 := HL.out k
        by_cases hlt : k < ks.length
        · obtain ⟨n1, g, o, lf1, PA1, np1, pc1, TA1, nt1, tc1, KA1, nk1, kc1, hn1, rfl, hbg, hnm, c0, c1, c2, c3⟩ := (HKS.out.below HW.out.below).at_ hlt
          obtain ⟨wk, hwk⟩ : ∃ wk, wk = wr.alloc (.cells #[.bool lf1, .slice PA1 np1 pc1, .slice TA1 nt1 tc1, .slice KA1 nk1 kc1] 26) := ⟨_, rfl⟩
          have HWk := hd (hwk ▸ HW.out.alloc (.cells #[.bool lf1, .slice PA1 np1 pc1, .slice TA1 nt1 tc1, .slice KA1 nk1 kc1] 26))
          have hbk2 : Below B wr wk := hwk ▸ (Below.refl _ _).alloc (by omega) _
          have HY := hd (HTK.out k n1 hn1)
          obtain ⟨k1, k3⟩ := HCK.out k n1 hn1
          have hk4 := HL.out (k + 1)
          rw [HY.out, List.length_append] at hk4
          have HC := hd (ih (L ++ txtK (ks.take k)) wk _ n1 (hd (hT.out.low h4 HWk.out.below)) HWk.out.buf (hnm.below hbk2) k1 k3 (by simp; omega))
          subst hwk
          clear hn1 hnm hbk2 k1
          go_wp2_with fail
          refine HC.out.mono ?_
          intro e w4 h5
          obtain ⟨rfl, h5⟩ := h5
          have HW4 := hd (HWk.out.trans h5)
          go_wp2
          go_roundw
          case rel => exact ⟨k + 1, by omega, by go_num, by rw [HY.out, ← List.append_assoc]; exact HW4⟩
          case measure => simp [intOf]; omega
        · have HE := hd (show ks.take k = ks from List.take_of_length_le (by omega))
          rw [HE.out] at HW hk2
          have HC1 := hd (wbyte_any B b _ 93 93 rfl wr HW.out.buf (by simp; omega) (by omega))
          go_wp2_with fail
          refine HC1.out.mono ?_
          intro e w2 h2
          obtain ⟨rfl, h2⟩ := h2
          go_wp2
          go_end0
          exact ⟨rfl, by have := HW.out.trans h2; rw [HLL.out] at this; exact this⟩
    · have hk : ks = [] := List.eq_nil_of_length_eq_zero (p3 rfl)
      subst hk
      have hq := quoR_yes' p2
      have HE := hd (show l ++ txtT (.mk true ps tx []) = (l ++ propsT ps) ++ quoL tx by rw [txtT]; simp)
      have hql : (txtT (.mk true ps tx [])).length = (propsT ps).length + (quoL tx).length := by rw [txtT]; simp
      rw [hql] at hlen
      have HQ := hd hq
      have hck : chkL tx = 0 := by unfold chkL; rw [p2]; rfl
      have HK := hd hck
      rw [HE.out]
      clear hn hc hb hp ht hf hks e1 e2 p1 p2 p3 p4 p16 w0 hql hq hck hd1
      subst hW1
      go_enter Tryd.func24, Tryd.ntmps24
      go_wp2_with fail
      refine HC1.out.mono ?_
      intro e w2 h2
      obtain ⟨rfl, h2⟩ := h2
      have HX2 := hd (h2.box HX1.out (by decide) hs1)
      have HW2 := hd (HW1.out.trans h2)
      obtain ⟨x0, x1, x2, x3⟩ := cell4 HX2.out
      have hs2 := HW2.out.size
      have HC2 := hd (quote_any TA tx tx.length tc w2 (hd (hT.out.low h4 HW2.out.below)) rfl (by omega) ((HT.out.below HW2.out.below).more (by omega)))
      clear h2 x1 x3
      go_wp2_with fail
      refine HC2.out.mono ?_
      intro e w3 h3
      obtain ⟨he, h3⟩ := h3
      rw [HQ.out, HK.out] at he
      subst he
      have HW3 := hd (HW2.out.later h3)
      have hs3 := HW3.out.size
      have hbz := bs_size (quoL tx)
      have HC3 := hd (wstr_any B b _ (bs (quoL tx)) w3 HW3.out.buf (by simp; omega) (by omega))
      clear h3 x0 x2 hbz
      go_wp2_with fail
      refine HC3.out.mono ?_
      intro e w4 h5
      obtain ⟨rfl, h5⟩ := h5
      go_wp2
      go_end0
      exact ⟨rfl, HW3.out.trans h5⟩

/-- What Print answers. -/
def printS (n : NT) : List UInt8 := if checkT n = 0 then txtT n else []
def PrintOk (n : NT) (w : World) (e : Ending) (w' : World) : Prop := e = .returned (.tuple #[.string (bs (printS n)), .int .i64 (checkT n)]) ∧ Below w.heap.size w w'
set_option maxRecDepth 4000 in
set_option maxHeartbeats 4000000 in
theorem print_w (d : Nat) (w : World) (v : Value) (n : NT) (hT : Hid (Tab w)) (hn : NodeAt d w w.heap.size v n) (hf : chkT n = 0 → weighT n ≤ 1000) :
    Calls Tryd.prog 11 #[v] w (PrintOk n w) := by
  have h4 : 4 ≤ w.heap.size := hT.out.2
  obtain ⟨d1, lf, ps, tx, ks, PA, pc, TA, tc, KA, kc, hd1, hn0, rfl, _, _, _, _⟩ := hn.open_
  have hN := hn.fit
  have HN := hd hn
  have HC := fun (X : World) (hb : Below w.heap.size w X) => hd (ncheck_any d X _ n (HN.out.later hb))
  obtain ⟨E, hE⟩ : ∃ E, checkT n = E := ⟨_, rfl⟩
  obtain ⟨W1, hW1⟩ : ∃ W1, W1 = w.alloc (.cells #[.bool lf, .slice PA ps.length pc, .slice TA tx.length tc, .slice KA ks.length kc] 26) := ⟨_, rfl⟩
  have hb1 : Below w.heap.size w W1 := hW1 ▸ (Below.refl _ _).alloc (Nat.le_refl _) _
  have HX1 := hd (hW1 ▸ boxAt w #[.bool lf, .slice PA ps.length pc, .slice TA tx.length tc, .slice KA ks.length kc] 26)
  have hz1 : W1.heap.size = w.heap.size + 1 := by rw [hW1]; simp
  have HC1 := HC W1 hb1
  rw [hE] at HC1
  have HB1 := hd hb1
  have HE := hd hE
  clear hb1 hn
  by_cases h0 : E = 0
  · have hc0 := checkT_zero (hE.trans h0)
    have hw := hf hc0
    have h50 := txt_weigh n hc0
    have hsw := size_weigh n
    have HP := hd (show printS n = txtT n by unfold printS; rw [if_pos (hE.trans h0)])
    have h0b : (E == 0) = true := by simp [h0]
    have h0c : (E != 0) = false := by simp [h0]
    have HK := hd hc0
    have H0 := hd h0
    clear hE hc0 hn0 hf hd1 hN h0
    subst hW1
    go_enter Tryd.func11, Tryd.ntmps11
    go_wp2_with fail
    refine HC1.out.mono ?_
    rintro e w2 ⟨rfl, hb2⟩
    have hb2' := HB1.out.trans (hb2.mono HB1.out.size)
    have hX2 : w2.heap[w.heap.size]? = some (.cells #[.bool lf, .slice PA ps.length pc, .slice TA tx.length tc, .slice KA ks.length kc] 26 (0, 0)) := (hb2.block _ (by omega)).trans HX1.out
    have hs2 := hb2.size
    obtain ⟨W3, hW3⟩ : ∃ W3, W3 = w2.alloc (.cells #[.pointer none, .slice none 0 0] 54) := ⟨_, rfl⟩
    have hb3 : Below w.heap.size w W3 := hW3 ▸ hb2'.alloc (by omega) _
    have hb23 : Below w2.heap.size w2 W3 := hW3 ▸ (Below.refl _ _).alloc (Nat.le_refl _) _
    have hz3 : W3.heap.size = w2.heap.size + 1 := by rw [hW3]; simp
    have hX3 : W3.heap[w.heap.size]? = some (.cells #[.bool lf, .slice PA ps.length pc, .slice TA tx.length tc, .slice KA ks.length kc] 26 (0, 0)) := (hb23.block _ (by omega)).trans hX2
    obtain ⟨x0, x1, x2, x3⟩ := cell4 hX2
    have hbuf : Buf w2.heap.size w2.heap.size [] W3 := hW3 ▸ Buf.new w2
    have HW := hd (write_any w2.heap.size w2.heap.size (by omega) d [] W3 _ n (hd (hT.out.low h4 hb3)) hbuf ((HN.out.below hb3).more (by omega)) HK.out (by omega) (by simp; omega))
    have HB3 := hd hb3
    have hlt2 : w.heap.size < w2.heap.size := by omega
    clear hbuf hb2 hb2' hX2 hb3 hb23 hX3
    subst hW3
    go_wp2_with fail
    refine HW.out.mono ?_
    intro e w4 h4'
    obtain ⟨rfl, h5⟩ := h4'
    have hb4 := HB3.out.trans (h5.below.mono (by omega))
    have hs4 := h5.size
    have HS := hd (bstr_any w2.heap.size w2.heap.size _ w4 h5.buf (by omega))
    have HB4 := hd hb4
    clear h5 hb4
    go_wp2_with fail
    refine HS.out.mono ?_
    rintro e w5 ⟨rfl, hb5⟩
    go_wp2
    go_ret2
    exact ⟨by rw [HP.out, HE.out, H0.out]; simp, HB4.out.trans (hb5.mono (by omega))⟩
  · have HP := hd (show printS n = [] by unfold printS; rw [if_neg (by rw [hE]; exact h0)])
    have h0b : (E == 0) = false := by simp [h0]
    have h0c : (E != 0) = true := by simp [h0]
    clear hE hn0 hf hd1 hN h0
    subst hW1
    go_enter Tryd.func11, Tryd.ntmps11
    go_wp2_with fail
    refine HC1.out.mono ?_
    rintro e w2 ⟨rfl, hb2⟩
    have hb2' := HB1.out.trans (hb2.mono HB1.out.size)
    go_wp2
    go_ret2
    exact ⟨by rw [HP.out, HE.out]; rfl, hb2'⟩
set_option maxRecDepth 4000 in
theorem print_any (d : Nat) (w : World) (v : Value) (n : NT) (hT : Hid (Tab w)) (hn : NodeAt d w w.heap.size v n) (hf : fewB 200 n = true) :
    Calls Tryd.prog 11 #[v] w (PrintOk n w) :=
  print_w d w v n hT hn fun hc => by
    have := of_few hn.fit hc (by omega) (by omega) hf
    omega

end Go.Proofs.YtknkclbjocfhiaaDoor
