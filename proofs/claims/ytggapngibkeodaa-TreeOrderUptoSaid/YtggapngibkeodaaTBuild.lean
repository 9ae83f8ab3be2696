/- A node that a call builds: its variable, its row of Kids, one kid more, and what it is in the end. -/
import Derived.Test.YtggapngibkeodaaNCopy
import Derived.Test.YtggapngibkeodaaTTree
namespace Go.Proofs.Ytggapngibkeodaa
open Go.RowKit
open Go.WideShapes (add_plain)

/-- Nothing has changed but block g. -/
structure Off (g : Nat) (w w' : World) : Prop where
  os : w'.os = w.os
  tape : w'.tape = w.tape
  output : w'.output = w.output
  size : w.heap.size ≤ w'.heap.size
  block : ∀ k, k < w.heap.size → k ≠ g → w'.heap[k]? = w.heap[k]?
theorem Off.refl (g : Nat) (w : World) : Off g w w := ⟨rfl, rfl, rfl, Nat.le_refl _, fun _ _ _ => rfl⟩
theorem Off.of_below {g : Nat} {w w' : World} (h : Below w.heap.size w w') : Off g w w' := ⟨h.os, h.tape, h.output, h.size, fun k hk _ => h.block k hk⟩
theorem Off.trans {g : Nat} {a b c : World} (h : Off g a b) (k : Off g b c) : Off g a c :=
  ⟨k.os.trans h.os, k.tape.trans h.tape, k.output.trans h.output, Nat.le_trans h.size k.size, fun i hi hg => (k.block i (Nat.lt_of_lt_of_le hi h.size) hg).trans (h.block i hi hg)⟩
theorem Off.below {g B : Nat} {w w' : World} (h : Off g w w') (hg : B ≤ g) (hB : B ≤ w.heap.size) : Below B w w' :=
  ⟨h.os, h.tape, h.output, h.size, fun k hk => h.block k (by omega) (by omega)⟩
theorem Off.cell {g : Nat} {w w' : World} (h : Off g w w') {p : Addr} (hp : p.block < w.heap.size) (hg : p.block ≠ g) : w'.cell? p = w.cell? p := World.cell?_of_block (h.block p.block hp hg)
theorem Off.frozen {g : Nat} {w w' : World} (h : Off g w w') {p : Addr} (hp : p.block < w.heap.size) (hg : p.block ≠ g) : w'.frozen? p = w.frozen? p := World.frozen?_of_block (h.block p.block hp hg)

theorem TreeP.deep {P : Nat → Prop} {w : World} : ∀ {d d' : Nat} {v : Value} {n : NT}, d ≤ d' → TreeP P d w v n → TreeP P d' w v n
  | 0, _, _, _, _, h => h.elim
  | d + 1, 0, _, _, h, _ => absurd h (Nat.not_succ_le_zero _)
  | d + 1, d' + 1, _, _, hd, ⟨PA, pc, TA, tc, KA, kc, e, hp, ht, hf, hks⟩ => ⟨PA, pc, TA, tc, KA, kc, e, hp, ht, hf, fun k m hm => by
      obtain ⟨b, o, u, e1, hb, hn, hc, hz⟩ := hks k m hm
      exact ⟨b, o, u, e1, hb, hn.deep (Nat.le_of_succ_le_succ hd), hc, hz⟩⟩
theorem NodeAt.deep {w : World} {B : Nat} : ∀ {d d' : Nat} {v : Value} {n : NT}, d ≤ d' → NodeAt d w B v n → NodeAt d' w B v n
  | 0, _, _, _, _, h => h.elim
  | d + 1, 0, _, _, h, _ => absurd h (Nat.not_succ_le_zero _)
  | d + 1, d' + 1, _, _, hd, ⟨PA, pc, TA, tc, KA, kc, e, hp, ht, hf, hks⟩ => ⟨PA, pc, TA, tc, KA, kc, e, hp, ht, hf, fun k m hm => by
      obtain ⟨b, o, u, e1, hb, hn, hc⟩ := hks k m hm
      exact ⟨b, o, u, e1, hb, hn.deep (Nat.le_of_succ_le_succ hd), hc⟩⟩
/-- The zero node. -/
def zeroV : Value := .agg #[.bool false, .slice none 0 0, .slice none 0 0, .slice none 0 0]
theorem fit_zero : FitN [] 0 0 0 0 0 := ⟨⟨by simp, by simp⟩, by simp, by omega, by omega, by simp, by omega, by omega⟩
theorem zero_tree (P : Nat → Prop) (d : Nat) (w : World) : TreeP P (d + 1) w (.agg #[.bool false, .slice none 0 0, .slice none 0 0, .slice none 0 0]) zeroT :=
  ⟨none, 0, none, 0, none, 0, rfl, fun k u h => by simp [pv, zeroT, NT.ps] at h, fun k u h => by simp [rv, zeroT, NT.tx] at h, fit_zero, fun k m h => by simp [zeroT, NT.ks] at h⟩

/-- A tree whose row of Kids is its own. -/
def TopP (P : Nat → Prop) : Nat → World → Value → NT → Prop
  | 0, _, _, _ => False
  | d + 1, w, v, n => ∃ PA pc TA tc KA kc, v = .agg #[.bool n.lf, .slice PA n.ps.length pc, .slice TA n.tx.length tc, .slice KA n.ks.length kc] ∧
      VP (fun b => P b ∧ some b ≠ (Value.slice KA 0 0).ownBlock) w PA (pv n.ps) ∧ VP (fun b => P b ∧ some b ≠ (Value.slice KA 0 0).ownBlock) w TA (rv n.tx) ∧ FitN n.ps n.tx.length n.ks.length pc tc kc ∧
      (∀ k m, n.ks[k]? = some m → ∃ g u, KA = some ⟨g, 0, none⟩ ∧ P g ∧ TreeP (fun b => P b ∧ some b ≠ (Value.slice KA 0 0).ownBlock) d w u m ∧ Cells4 w g (0 + k * 4) u ∧ ∀ i, i < 4 → w.frozen? ⟨g, k * 4 + i, none⟩ = false)
theorem TopP.tree {P : Nat → Prop} : ∀ {d : Nat} {w : World} {v : Value} {n : NT}, TopP P d w v n → TreeP P d w v n
  | 0, _, _, _, h => h.elim
  | d + 1, w, v, n, ⟨PA, pc, TA, tc, KA, kc, e, hp, ht, hf, hks⟩ => ⟨PA, pc, TA, tc, KA, kc, e, hp.keep (fun _ h => h.1) (fun _ _ => ⟨rfl, rfl⟩), ht.keep (fun _ h => h.1) (fun _ _ => ⟨rfl, rfl⟩), hf, fun k m hm => by
      obtain ⟨g, u, e1, hg, ht, hc, hz⟩ := hks k m hm
      exact ⟨g, 0, u, e1, hg, ht.keep (fun _ h => h.1) (fun _ _ => ⟨rfl, rfl⟩), hc, by have := hz 0 (by omega); rw [Nat.zero_add]; exact this⟩⟩

/-- The blocks that hold what has been built so far, but for the variable and its row. -/
def Spare (P : Nat → Prop) (g : Nat) (v : Value) (w : World) (b : Nat) : Prop := P b ∧ b < w.heap.size ∧ b ≠ g ∧ some b ≠ v.ownBlock
/-- A node that a call builds in block gO; all blocks from 'base' on are the call's own. -/
structure Build (P : Nat → Prop) (wb : World) (base d : Nat) (lf : Bool) (ps : List Pr) (tx : List Int) (gO : Nat) (PA : Option Addr) (pc : Nat) (TA : Option Addr) (tc : Nat) (vK : Value) (n : Nat) (us : List Value) (ks : List NT) (wr : World) : Prop where
  below : Below base wb wr
  bs : base ≤ wb.heap.size
  lo : base ≤ gO
  up : ∀ b, base ≤ b → P b
  out : wr.heap[gO]? = some (.cells #[.bool lf, .slice PA ps.length pc, .slice TA tx.length tc, vK] 26 (0, 0))
  row : wr.ownsRow base 26 4 vK n (us.flatMap fun u => u.cells.toList)
  len : us.length = n
  num : ks.length = n
  apart : vK.ownBlock ≠ some gO
  props : VP (Spare P gO vK wr) wr PA (pv ps)
  text : VP (Spare P gO vK wr) wr TA (rv tx)
  kids : ∀ (j : Nat) (m : NT), ks[j]? = some m → ∃ u, us[j]? = some u ∧ TreeP (Spare P gO vK wr) d wr u m

theorem Build.deep {P : Nat → Prop} {wb wr : World} {base d d' : Nat} {lf : Bool} {ps : List Pr} {tx : List Int} {gO : Nat} {PA : Option Addr} {pc : Nat} {TA : Option Addr} {tc : Nat} {vK : Value} {n : Nat} {us : List Value} {ks : List NT} (h : Build P wb base d lf ps tx gO PA pc TA tc vK n us ks wr) (hd : d ≤ d') :
    Build P wb base d' lf ps tx gO PA pc TA tc vK n us ks wr :=
  ⟨h.below, h.bs, h.lo, h.up, h.out, h.row, h.len, h.num, h.apart, h.props, h.text, fun j m hm => by
    obtain ⟨u, h1, h2⟩ := h.kids j m hm
    exact ⟨u, h1, h2.deep hd⟩⟩

theorem flat_append (us vs : List Value) : ((us ++ vs).flatMap fun u => u.cells.toList) = (us.flatMap fun u => u.cells.toList) ++ (vs.flatMap fun u => u.cells.toList) := by simp

/-- Kids more: the row grows, the variable takes it. -/
theorem build_more {P : Nat → Prop} {wb wr w4 w6 : World} {base d : Nat} {lf : Bool} {ps : List Pr} {tx : List Int} {gO : Nat} {PA : Option Addr} {pc : Nat} {TA : Option Addr} {tc : Nat} {vK : Value} {n : Nat} {us : List Value} {ks : List NT}
    (h : Build P wb base d lf ps tx gO PA pc TA tc vK n us ks wr) {vK' : Value} {n' : Nat} {vs : List Value} {ms : List NT} (hn : n' = n + ms.length) (hl : vs.length = ms.length)
    (hb4 : Below wr.heap.size wr w4) (hgrow : w4.grownBy w6 vK.ownBlock) (hown : w6.ownsRow base 26 4 vK' n' ((us.flatMap fun u => u.cells.toList) ++ (vs.flatMap fun u => u.cells.toList)))
    (hat : vK'.ownBlock = vK.ownBlock ∨ ∃ g, vK'.ownBlock = some g ∧ w4.heap.size ≤ g)
    (hm : ∀ (j : Nat) (m : NT), ms[j]? = some m → ∃ u, vs[j]? = some u ∧ TreeP (Spare P gO vK w4) d w4 u m) :
    Build P wb base d lf ps tx gO PA pc TA tc vK' n' (us ++ vs) (ks ++ ms) (w6.setCell ⟨gO, 3, none⟩ vK') := by
  have hOl := lt_of_block h.out
  have hbs := hb4.size
  have hgs := hgrow.size
  have hbw := h.below.size
  have hlo := h.lo
  have hbase := h.bs
  obtain ⟨wx, hwx⟩ : ∃ wx, wx = w6.setCell ⟨gO, 3, none⟩ vK' := ⟨_, rfl⟩
  have ex : wx.heap.size = w6.heap.size := by rw [hwx]; simp
  have hx4 : ∀ b, b < w4.heap.size → b ≠ gO → some b ≠ vK.ownBlock → wx.heap[b]? = w4.heap[b]? := fun b hb h1 h2 => by
    rw [hwx, Below.heap_setCell _ _ _ _ (by simpa using h1), hgrow.block b hb h2]
  have hrb : ∀ b, vK.ownBlock = some b → base ≤ b ∧ b < wr.heap.size := fun b e => h.row.lt b e
  have hapart : vK'.ownBlock ≠ some gO := by
    rcases hat with e | ⟨g, e, hg⟩
    · rw [e]; exact h.apart
    · rw [e]; intro e2; injection e2 with e2; omega
  have hP : ∀ b, Spare P gO vK w4 b → Spare P gO vK' wx b := fun b hb => ⟨hb.1, by have := hb.2.1; omega, hb.2.2.1, by
    rcases hat with e | ⟨g, e, hg⟩
    · rw [e]; exact hb.2.2.2
    · rw [e]; intro e2; injection e2 with e2; have := hb.2.1; omega⟩
  have hK : ∀ p : Addr, Spare P gO vK w4 p.block → wx.cell? p = w4.cell? p ∧ wx.frozen? p = w4.frozen? p := fun p hp =>
    ⟨World.cell?_of_block (hx4 _ hp.2.1 hp.2.2.1 hp.2.2.2), World.frozen?_of_block (hx4 _ hp.2.1 hp.2.2.1 hp.2.2.2)⟩
  have hP0 : ∀ b, Spare P gO vK wr b → Spare P gO vK w4 b := fun b hb => ⟨hb.1, by have := hb.2.1; omega, hb.2.2.1, hb.2.2.2⟩
  have hK0 : ∀ p : Addr, Spare P gO vK wr p.block → w4.cell? p = wr.cell? p ∧ w4.frozen? p = wr.frozen? p := fun p hp => ⟨hb4.cell hp.2.1, hb4.frozen hp.2.1⟩
  have hb0 : Below base wb w4 := h.below.trans (hb4.mono (by omega))
  have hbx : Below base wb wx := hwx ▸ (hb0.grown hgrow (by omega) (fun j hj => (hrb j hj).1)).setCell (by show _ ≤ gO; omega) _
  rw [← hwx]
  refine ⟨hbx, h.bs, h.lo, h.up, ?_, ?_, by rw [List.length_append, h.len, hl, hn], by rw [List.length_append, h.num, hn], hapart, (h.props.keep hP0 hK0).keep hP hK, (h.text.keep hP0 hK0).keep hP hK, fun j m hj => ?_⟩
  · have h6 : w6.heap[gO]? = _ := (hgrow.block gO (by omega) (fun e => h.apart e.symm)).trans ((hb4.block gO hOl).trans h.out)
    rw [hwx, setCell_block h6]; rfl
  · rw [hwx, flat_append]
    exact ownsRow_setCell_other hown (a := ⟨gO, 3, none⟩) hapart _
  · rcases Nat.lt_or_ge j ks.length with hjk | hjk
    · rw [List.getElem?_append_left hjk] at hj
      obtain ⟨u, hu, ht⟩ := h.kids j m hj
      exact ⟨u, by rw [List.getElem?_append_left (by rw [h.len, ← h.num]; exact hjk)]; exact hu, (ht.keep hP0 hK0).keep hP hK⟩
    · rw [List.getElem?_append_right hjk] at hj
      obtain ⟨u, hu, ht⟩ := hm _ m hj
      refine ⟨u, ?_, ht.keep hP hK⟩
      rw [List.getElem?_append_right (by rw [h.len, ← h.num]; exact hjk), h.len, ← h.num]; exact hu

/-- One kid more, told by a call. -/
theorem build_step {P : Nat → Prop} {wb wr wk w4 w6 : World} {base d : Nat} {lf : Bool} {ps : List Pr} {tx : List Int} {gO : Nat} {PA : Option Addr} {pc : Nat} {TA : Option Addr} {tc : Nat} {vK : Value} {n : Nat} {us : List Value} {ks : List NT}
    (h : Build P wb base d lf ps tx gO PA pc TA tc vK n us ks wr) {m : NT} {c0 c1 c2 c3 : Value} {g6 cap6 : Nat} {t : TypeId} (hbk : Below wr.heap.size wr wk)
    (hb4 : Below wk.heap.size wk w4) (ht4 : TreeP (fun b => wk.heap.size ≤ b ∧ b < w4.heap.size) d w4 (.agg #[c0, c1, c2, c3]) m) (hgrow : (w4.alloc (.cells #[c0, c1, c2, c3] t)).grownBy w6 vK.ownBlock)
    (hown : w6.ownsRow base 26 4 (.slice (some ⟨g6, 0, none⟩) (n + 1) cap6) (n + 1) ((us.flatMap fun u => u.cells.toList) ++ [c0, c1, c2, c3])) (hat : vK.ownBlock = some g6 ∨ g6 = w4.heap.size + 1) :
    Build P wb base d lf ps tx gO PA pc TA tc (.slice (some ⟨g6, 0, none⟩) (n + 1) cap6) (n + 1) (us ++ [.agg #[c0, c1, c2, c3]]) (ks ++ [m]) (w6.setCell ⟨gO, 3, none⟩ (.slice (some ⟨g6, 0, none⟩) (n + 1) cap6)) := by
  have hbs := hbk.size
  have hb4s := hb4.size
  have hbase := h.bs
  have hbw := h.below.size
  have hOl := lt_of_block h.out
  have e5 : (w4.alloc (.cells #[c0, c1, c2, c3] t)).heap.size = w4.heap.size + 1 := sz1
  have hb45 : Below w4.heap.size w4 (w4.alloc (.cells #[c0, c1, c2, c3] t)) := (Below.refl _ _).alloc (Nat.le_refl _) _
  have hbr5 : Below wr.heap.size wr (w4.alloc (.cells #[c0, c1, c2, c3] t)) := (hbk.trans (hb4.mono hbs)).alloc (by omega) _
  refine build_more h (by simp) (by simp) hbr5 hgrow (by simpa [Value.cells] using hown) ?_ (fun j m' hj => ?_)
  · rcases hat with e | e
    · exact .inl (by rw [e]; rfl)
    · exact .inr ⟨g6, rfl, by omega⟩
  · cases j with
    | zero =>
      simp only [List.getElem?_cons_zero, Option.some.injEq] at hj
      subst hj
      refine ⟨_, rfl, ht4.keep (fun b hb => ⟨h.up b (by omega), by omega, by omega, fun e => ?_⟩) (fun p hp => ⟨hb45.cell hp.2, hb45.frozen hp.2⟩)⟩
      have := (h.row.lt b e.symm).2
      omega
    | succ j => simp at hj

/-- What a row of the call's own holds, nil or not. -/
theorem own_free {t : TypeId} {size n : Nat} {v : Value} {xs : List Value} {w : World} {base : Nat} (h : w.ownsRow base t size v n xs) : ∃ A c, v = .slice A n c ∧ n ≤ c ∧ c ≤ maxLen ∧ ∀ k u, xs[k]? = some u → ∃ g, A = some ⟨g, 0, none⟩ ∧ base ≤ g ∧ g < w.heap.size ∧ Free w g k u := by
  rcases h.2 with ⟨e, h0⟩ | ⟨g, cap, cur, e, hb, hh, h1, h2, _⟩
  · refine ⟨none, 0, by rw [e, h0], by omega, by unfold maxLen; omega, fun k u hu => ?_⟩
    have := (List.getElem?_eq_some_iff.1 hu).1
    rw [h.1, h0] at this
    omega
  · refine ⟨some ⟨g, 0, none⟩, cap, e, h1, h2, fun k u hu => ⟨g, rfl, hb, lt_of_block hh, ?_, by simp [World.frozen?, hh]⟩⟩
    have := h.cells (g := g) (by rw [e]; rfl) k u hu
    rwa [add_plain, Nat.zero_add] at this

/-- The end: the whole node. -/
theorem build_end {P : Nat → Prop} {wb wr w7 : World} {base d : Nat} {lf : Bool} {ps : List Pr} {tx : List Int} {gO : Nat} {PA : Option Addr} {pc : Nat} {TA : Option Addr} {tc : Nat} {vK : Value} {n : Nat} {us : List Value} {ks : List NT}
    (h : Build P wb base d lf ps tx gO PA pc TA tc vK n us ks wr) (hf : Wide ps ∧ ps.length ≤ 4398046511104 ∧ tx.length ≤ 35184372088832 ∧ ks.length ≤ 1759218604441 ∧ ps.length ≤ pc ∧ tx.length ≤ tc) (hs : wr.heap.size ≤ w7.heap.size) (h7 : ∀ b, P b → b < wr.heap.size → w7.heap[b]? = wr.heap[b]?) :
    TopP (fun b => P b ∧ b < w7.heap.size) (d + 1) w7 (.agg #[.bool lf, .slice PA ps.length pc, .slice TA tx.length tc, vK]) (.mk lf ps tx ks) := by
  have hrow := h.row
  obtain ⟨KA, kc, rfl, hnc, hcm, hfree⟩ := own_free hrow
  have hobs : (Value.slice KA 0 0).ownBlock = (Value.slice KA n kc).ownBlock := by cases KA <;> rfl
  have hP : ∀ b, Spare P gO (.slice KA n kc) wr b → ((P b ∧ b < w7.heap.size) ∧ some b ≠ (Value.slice KA 0 0).ownBlock) := fun b hb => ⟨⟨hb.1, by have := hb.2.1; omega⟩, by rw [hobs]; exact hb.2.2.2⟩
  have hK : ∀ p : Addr, Spare P gO (.slice KA n kc) wr p.block → w7.cell? p = wr.cell? p ∧ w7.frozen? p = wr.frozen? p := fun p hp =>
    ⟨World.cell?_of_block (h7 _ hp.1 hp.2.1), World.frozen?_of_block (h7 _ hp.1 hp.2.1)⟩
  have h4 : ∀ x ∈ us, x.cells.size = 4 := fun x hx => by
    obtain ⟨j, hj, rfl⟩ := List.mem_iff_getElem.1 hx
    obtain ⟨u, hu, ht⟩ := h.kids j _ (List.getElem?_eq_getElem (by rw [h.num, ← h.len]; exact hj))
    rw [List.getElem?_eq_getElem hj] at hu
    injection hu with hu
    obtain ⟨c0, c1, c2, c3, e⟩ := ht.four
    rw [hu, e]; rfl
  refine ⟨PA, pc, TA, tc, KA, kc, by rw [← h.num]; rfl, h.props.keep hP hK, h.text.keep hP hK, ⟨hf.1, hf.2.1, hf.2.2.1, hf.2.2.2.1, hf.2.2.2.2.1, hf.2.2.2.2.2, by show ks.length ≤ kc; rw [h.num]; exact hnc⟩, fun k m hm => ?_⟩
  have hk : k < ks.length := (List.getElem?_eq_some_iff.1 hm).1
  obtain ⟨u, hu, ht⟩ := h.kids k m hm
  obtain ⟨c0, c1, c2, c3, e⟩ := ht.four
  have hc := fun i c hi => hfree (k * 4 + i) c (cells_at us k u c0 c1 c2 c3 h4 hu e i c hi)
  obtain ⟨g, hg, hgb, hgl, _, _⟩ := hc 0 c0 rfl
  subst hg
  have hw7 : w7.heap[g]? = wr.heap[g]? := h7 g (h.up g hgb) hgl
  have hc' : ∀ i c, [c0, c1, c2, c3][i]? = some c → w7.cell? ⟨g, k * 4 + i, none⟩ = some c ∧ w7.frozen? ⟨g, k * 4 + i, none⟩ = false := fun i c hi => by
    obtain ⟨g', e', _, _, h5, h6⟩ := hc i c hi
    injection e' with e'
    injection e' with e'
    subst e'
    exact ⟨(World.cell?_of_block (a := ⟨g, k * 4 + i, none⟩) hw7).trans h5, (World.frozen?_of_block (a := ⟨g, k * 4 + i, none⟩) hw7).trans h6⟩
  refine ⟨g, u, rfl, ⟨h.up g hgb, by omega⟩, ht.keep hP hK, ⟨c0, c1, c2, c3, e, ?_, ?_, ?_, ?_⟩, fun i hi => ?_⟩
  · rw [Nat.zero_add]; exact (hc' 0 c0 rfl).1
  · rw [Nat.zero_add]; exact (hc' 1 c1 rfl).1
  · rw [Nat.zero_add]; exact (hc' 2 c2 rfl).1
  · rw [Nat.zero_add]; exact (hc' 3 c3 rfl).1
  · match i, hi with
    | 0, _ => exact (hc' 0 c0 rfl).2
    | 1, _ => exact (hc' 1 c1 rfl).2
    | 2, _ => exact (hc' 2 c2 rfl).2
    | 3, _ => exact (hc' 3 c3 rfl).2

/-- A new tree, its row its own. -/
def CopiedT (d : Nat) (n : NT) (w : World) (e : Ending) (w' : World) : Prop :=
  ∃ v, e = .returned v ∧ TopP (fun b => w.heap.size ≤ b ∧ b < w'.heap.size) d w' v n ∧ Below w.heap.size w w'
theorem CopiedT.copied {d : Nat} {n : NT} {w w' : World} {e : Ending} (h : CopiedT d n w e w') : Copied d n w e w' := by
  obtain ⟨v, h1, h2, h3⟩ := h
  exact ⟨v, h1, h2.tree, h3⟩

end Go.Proofs.Ytggapngibkeodaa
