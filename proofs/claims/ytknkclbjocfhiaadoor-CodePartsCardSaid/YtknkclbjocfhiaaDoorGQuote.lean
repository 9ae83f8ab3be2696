/- A rune written, a text quoted; the chapter's example. -/
import Derived.Test.YtknkclbjocfhiaaDoorGTab
import Derived.Test.YtknkclbjocfhiaaDoorGRead
import Derived.Laws.IdiomStrings
namespace Go.Proofs.YtknkclbjocfhiaaDoor
open Go.RowKit

/-- A string of these bytes. -/
def bs (l : List UInt8) : ByteArray := ⟨l.toArray⟩
set_option maxRecDepth 4000 in
theorem bs_toList (l : List UInt8) : (bs l).toList = l := by unfold bs; exact ByteArray.toList_mk l
set_option maxRecDepth 4000 in
theorem bs_data (l : List UInt8) : (bs l).data.toList = l := rfl
set_option maxRecDepth 4000 in
theorem bs_size (l : List UInt8) : (bs l).size = l.length := by unfold bs; simp [ByteArray.size]
set_option maxRecDepth 4000 in
theorem bs_of (s : ByteArray) : bs s.data.toList = s := rfl

/-- Rows of the call's own may have turned; older memory has not. -/
def Gr (b : Nat) (W w' : World) : Prop := W.heap.size ≤ w'.heap.size ∧ ∀ B w0, B ≤ b → B ≤ W.heap.size → Below B w0 W → Below B w0 w'
set_option maxRecDepth 4000 in
theorem Grew.gr {b : Nat} {v : Value} {W w' : World} (h : Grew b v W w') : Gr b W w' := ⟨h.size, h.below⟩
set_option maxRecDepth 4000 in
theorem Gr.trans {b : Nat} {w0 w1 w2 : World} (h : Gr b w0 w1) (k : Gr b w1 w2) : Gr b w0 w2 := ⟨Nat.le_trans h.1 k.1, fun B w hB hBW hb => k.2 B w hB (Nat.le_trans hBW h.1) (h.2 B w hB hBW hb)⟩
set_option maxRecDepth 4000 in
theorem Gr.below {b : Nat} {w0 w1 : World} (h : Gr b w0 w1) (B : Nat) (w : World) (hB : B ≤ b) (hBW : B ≤ w0.heap.size) (hb : Below B w w0) : Below B w w1 := h.2 B w hB hBW hb
set_option maxRecDepth 4000 in
theorem Tab.gr {b : Nat} {w w' : World} (h : Tab w) (hb : 4 ≤ b) (hg : Gr b w w') : Tab w' := by
  have := hg.2 4 w hb h.2 (Below.refl _ _)
  exact ⟨(this.cell (p := ⟨3, 15, none⟩) (by simp)).trans h.1, Nat.lt_of_lt_of_le h.2 hg.1⟩

def PutG (b : Nat) (l : List UInt8) (w : World) (e : Ending) (w' : World) : Prop := ∃ v', e = .returned v' ∧ OwnV 5 w' b v' (bv l) ∧ Gr b w w'

set_option maxRecDepth 4000 in
set_option maxHeartbeats 1000000 in
theorem appendRune_any (v : Value) (k : List UInt8) (c : Int) (w : World) (hT : Hid (Tab w)) (b : Nat) (hb3 : 4 ≤ b) (hO : Hid (OwnV 5 w b v (bv k))) (hk : k.length ≤ 15000) (hr : isR c = true) (hb : b ≤ w.heap.size) :
    Calls Tryd.prog 44 #[v, .int .i32 c] w (PutG b (k ++ escL c) w) := by
  have hc := (isR_iff c).1 hr
  obtain ⟨n, rfl⟩ : ∃ n : Nat, c = n := ⟨c.toNat, by omega⟩
  have hn : n ≤ 1114111 := by omega
  have HP := hd (isPlain_any (n : Int) w)
  have hkl : (bv k).length ≤ 15000 := by rw [bv_len]; exact hk
  clear hc hr
  cases hp : isP n
  · have HE := hd (show escL n = [92] ++ hexL n ++ [59] by unfold escL; rw [hp]; simp)
    rw [hp] at HP
    clear hp
    go_enter Tryd.func44, Tryd.ntmps44
    go_wp2_with fail
    refine HP.out.mono ?_
    rintro e w' ⟨rfl, rfl⟩
    go_wp2_with (at_builtin; refine wpList_append_1 byteElem (by decide) _ rfl (.tmp 12) (.tmp 13) rfl b v (bv k) (.int .u8 92) _ rfl hO.out _ rfl rfl rfl (by omega) hb ?_; intro v1 w1 ho1 hg1)
    have HO1 := hd (show OwnV 5 w1 b v1 (bv (k ++ [92])) by rw [bv_append]; exact ho1)
    have HT1 := hd (hT.out.gr hb3 hg1.gr)
    have hb1 : b ≤ w1.heap.size := Nat.le_trans hb hg1.size
    clear ho1
    go_wp2_with fail
    refine (appendInt_any v1 (k ++ [92]) n w1 HT1 b HO1 (by simp; omega) hn hb1).mono ?_
    rintro e w2 ⟨v2, rfl, ho2, hg2⟩
    have hb2 : b ≤ w2.heap.size := Nat.le_trans hb1 hg2.size
    have hl2 : (bv (k ++ [92] ++ hexL n)).length ≤ 50000 := by rw [bv_len]; have := hexL_six n hn; simp; omega
    go_wp2_with (at_builtin; refine wpList_append_1 byteElem (by decide) _ rfl (.tmp 19) (.tmp 20) rfl b v2 (bv (k ++ [92] ++ hexL n)) (.int .u8 59) _ rfl ho2 _ rfl rfl rfl hl2 hb2 ?_; intro v3 w3 ho3 hg3)
    go_ret
    exact ⟨v3, rfl, by rw [HE.out, ← List.append_assoc, ← List.append_assoc, bv_append]; exact ho3, (hg1.gr.trans hg2.gr).trans hg3.gr⟩
  · have hpp := (isP_iff n).1 hp
    have h1 : 32 ≤ n := by omega
    have h2 : n ≤ 126 := by omega
    have HE := hd (show bv (escL n) = [.int .u8 n] by unfold escL; rw [hp]; simp [bv]; omega)
    rw [hp] at HP
    clear hp hpp
    go_enter Tryd.func44, Tryd.ntmps44
    go_wp2_with fail
    refine HP.out.mono ?_
    rintro e w' ⟨rfl, rfl⟩
    go_wp2_with (at_builtin; refine wpList_append_1 byteElem (by decide) _ rfl (.tmp 7) (.tmp 10) rfl b v (bv k) (.int .u8 n) _ rfl hO.out _ rfl rfl rfl (by omega) hb ?_; intro v1 w1 ho1 hg1)
    go_ret
    exact ⟨v1, rfl, by rw [bv_append, HE.out]; exact ho1, hg1.gr⟩

set_option maxRecDepth 4000 in
theorem str_of {w : World} {B n c : Nat} {A : Option Addr} {l : List UInt8} (h : VL w B A (bv l)) (hn : l.length = n) (h0 : 0 < n) : (convert 39 9 (.slice A n c)).run Tryd.prog w = .ok (.string (bs l)) w := by
  subst hn
  obtain ⟨b, o, rfl, _, hc⟩ := h (by intro e; have := congrArg List.length e; rw [bv_len] at this; simp at this; subst this; simp at h0)
  refine run_convert_bytes_back w 39 9 5 ⟨b, o, none⟩ c l Tryd.underlying39 Tryd.underlying5 Tryd.underlying9 fun j hj => ?_
  rw [Go.WideShapes.add_plain]
  exact hc j _ (by simp [bv, hj])

def quoR (l : List Int) : List UInt8 := if okR l then quoL l else []
set_option maxRecDepth 4000 in
theorem bodyL_take (l : List Int) (k : Nat) (h : k < l.length) : bodyL (l.take (k + 1)) = bodyL (l.take k) ++ escL (atL l k) := by
  rw [List.take_succ_eq_append_getElem h, bodyL_append, atL_eq l k h]
  simp [bodyL]

set_option maxRecDepth 4000 in
theorem quote_end {w : World} {b : Nat} {v : Value} {l : List UInt8} (h : OwnV 5 w b v (bv l ++ [.int .u8 34])) : ∃ A n c, v = .slice A n c ∧ (convert 39 9 (.slice A n c)).run Tryd.prog w = .ok (.string (bs (l ++ [34]))) w := by
  have e : bv l ++ [.int .u8 34] = bv (l ++ [34]) := by rw [bv_append]; rfl
  rw [e] at h
  obtain ⟨A, c, rfl, _, _, hv, _⟩ := h.open_at (l ++ [34]).length (bv_len _)
  exact ⟨A, _, c, rfl, str_of hv rfl (by simp)⟩
def QuoOk (l : List Int) (w : World) (e : Ending) (w' : World) : Prop := e = .returned (.tuple #[.string (bs (quoR l)), .int .i64 (chkL l)]) ∧ Below w.heap.size w w'
set_option maxRecDepth 4000 in
theorem quo_ret {w w' : World} {l : List Int} {t : List UInt8} {e : Int} (h1 : quoR l = t) (h2 : chkL l = e) (hb : Below w.heap.size w w') : QuoOk l w (.returned (.tuple #[.string (bs t), .int .i64 e])) w' := by
  subst h1 h2; exact ⟨rfl, hb⟩

set_option maxRecDepth 4000 in
set_option maxHeartbeats 2000000 in
theorem quote_any (A : Option Addr) (l : List Int) (n c : Nat) (w : World) (hT : Hid (Tab w)) (hn : l.length = n) (hl : n ≤ 1000) (hp : VL w w.heap.size A (rv l)) :
    Calls Tryd.prog 20 #[.slice A n c] w (QuoOk l w) := by
  have HP := hd hp
  have HN := hd hn
  have HC := hd (check_any A l n c w hn (by omega) hp)
  unfold chkL at HC
  clear hp hn
  have h3 : 4 ≤ w.heap.size := hT.out.2
  cases hk : okR l
  · have HF := hd (show quoR l = [] by unfold quoR; rw [hk]; rfl)
    have HG := hd (show chkL l = 4 by unfold chkL; rw [hk]; rfl)
    rw [hk] at HC
    clear hk
    go_enter Tryd.func20, Tryd.ntmps20
    go_wp2_with fail
    refine HC.out.mono ?_
    rintro e w' ⟨rfl, rfl⟩
    go_wp2
    go_ret2
    exact quo_ret HF.out HG.out (Below.refl _ _)
  · have HF := hd (show quoR l = 34 :: bodyL l ++ [34] by unfold quoR; rw [hk]; rfl)
    have HG := hd (show chkL l = 0 by unfold chkL; rw [hk]; rfl)
    have HK := hd ((okR_iff l).1 hk)
    have HB : Hid (∀ k, (bodyL (l.take k)).length ≤ 8000) := hd (fun k => by
      have h1 := bodyL_len (l.take k) (okR_take hk k)
      have h2 : (l.take k).length ≤ l.length := List.length_take_le' _ _
      have := HN.out
      omega)
    have hmk : ∀ W : World, (Instr.makeSlice 39 (.int .i64 0) (.int .i64 ((n : Int) + 2))).run Tryd.prog W = .ok (.slice (some ⟨W.heap.size, 0, none⟩) 0 (n + 2)) (W.alloc (.cells (madeCells #[.int .u8 0] (n + 2)) 5)) := fun W => run_mk_byte (n + 2) (by omega) W
    rw [hk] at HC
    clear hk
    go_enter Tryd.func20, Tryd.ntmps20
    go_wp2_with fail
    refine HC.out.mono ?_
    rintro e w' ⟨rfl, rfl⟩
    go_wp2_with (at_builtin; refine wpList_append_1 byteElem (by decide) _ rfl (.tmp 17) (.tmp 18) rfl w.heap.size (.slice (some ⟨w.heap.size, 0, none⟩) 0 (n + 2)) [] (.int .u8 34) _ rfl (OwnV.made 5 w (.int .u8 0) w.heap.size (n + 2) (by omega) (Nat.le_refl _)) (w.heap.size + 1) (by simp) rfl rfl (by simp) (by simp) ?_; intro v1 w1 ho1 hg1)
    have hb1 := hg1.below w.heap.size w (Nat.le_refl _) (by simp) ((Below.refl _ _).alloc (Nat.le_refl _) _)
    have HO1 := hd (show OwnV 5 w1 w.heap.size v1 (bv (34 :: bodyL (l.take 0))) from ho1)
    have HT1 := hd (hT.out.below hb1)
    clear ho1 hmk
    go_loopw [5, 22] (fun v i wr => ∃ k : Nat, k ≤ n ∧ i = .int .i64 k ∧ Hid (OwnV 5 wr w.heap.size v (bv (34 :: bodyL (l.take k)))) ∧ Below w.heap.size w wr ∧ Hid (Tab wr)) (fun _ i _ => n - (intOf i).toNat)
    case atStart => exact ⟨0, Nat.zero_le _, rfl, HO1, hb1, HT1⟩
    case round =>
      obtain ⟨k, hk, rfl, ho, hb, HTr⟩ := hrel
      by_cases hlt : k < n
      · obtain ⟨b, o, rfl, hbl, hc⟩ := (HP.out.below hb).rune (k := k) (by have := HN.out; omega)
        have HR := hd (HK.out k (by have := HN.out; omega))
        have HX := hd (bodyL_take l k (by have := HN.out; omega))
        have hl5 : (34 :: bodyL (l.take k)).length ≤ 15000 := by have := HB.out k; simp; omega
        go_wp2_with (go_at_call 44; refine (appendRune_any _ (34 :: bodyL (l.take k)) (atL l k) wr HTr w.heap.size h3 ho hl5 HR.out hb.size).mono ?_; rintro e w2 ⟨v2, rfl, ho2, hg2⟩)
        have hb2 := hg2.below w.heap.size w (Nat.le_refl _) hb.size hb
        have HO2 := hd (show OwnV 5 w2 w.heap.size v2 (bv (34 :: bodyL (l.take (k + 1)))) by rw [HX.out]; exact ho2)
        have HT2 := hd (HTr.out.gr h3 hg2)
        go_roundw
        case rel => exact ⟨k + 1, by omega, by go_num, HO2, hb2, HT2⟩
        case measure => simp [intOf]; omega
      · have HX := hd (show l.take k = l from List.take_of_length_le (by have := HN.out; omega))
        rw [HX.out] at ho
        have hl5 : (bv (34 :: bodyL l)).length ≤ 50000 := by have := HB.out k; rw [HX.out] at this; rw [bv_len]; simp; omega
        go_wp2_with (at_builtin; refine wpList_append_1 byteElem (by decide) _ rfl (.tmp 30) (.tmp 31) rfl w.heap.size _ (bv (34 :: bodyL l)) (.int .u8 34) _ rfl ho.out _ rfl rfl rfl hl5 hb.size ?_; intro v3 w3 ho3 hg3; obtain ⟨A3, N3, c3, rfl, hcv⟩ := quote_end ho3)
        have hb3 := hg3.below w.heap.size w (Nat.le_refl _) hb.size hb
        go_ret2
        exact quo_ret HF.out HG.out hb3

end Go.Proofs.YtknkclbjocfhiaaDoor
