/- The document's Names. -/
import Derived.Test.YtegaapeaeffgoaaJANames
import Derived.Test.YtegaapeaeffgoaaJARules
import Derived.Test.YtegaapeaeffgoaaJAForm2
import Derived.Test.YtegaapeaeffgoaaAForm
import Derived.Test.YtegaapeaeffgoaaJASeek
import Derived.Test.YtegaapeaeffgoaaJATextWC
import Derived.Test.YtegaapeaeffgoaaJPSpec
import Derived.Test.YtegaapeaeffgoaaProg
import Derived.WalkKit
import Derived.WalkLawsBesides
import Derived.WalkSpells
import Derived.LoopTactic
import Derived.Outline
import Derived.Deep.Draws
import Derived.Deep.QuietTactic
import Derived.BigQuiet
import Derived.Below
import Derived.Laws.OwnMore
import Derived.Laws.MakeOwn
import Derived.Maps.AppendAt
import Derived.Deep.AppendLies
import Derived.RegionTactic
import Derived.OwnWalk
import Derived.WideShapes
import Derived.IntWalk
import Derived.OrdersHeld
import Derived.Great.BuildSlice
import Derived.Great.FillDense
import Derived.Lib.AppendZeros
import Derived.Maps.OwnSet
import Derived.Maps.OwnOps
import Derived.Maps.StringElems
import Derived.Maps.RangeWalk
import Derived.Shelf.Lays
import Derived.Shelf.Sort.Plain
import Derived.Sort.OwnSorted
import Derived.Sort.KeysCollected
namespace Go.Proofs.Ytegaapeaeffgoaa
open Go.RowKit Go.Maps Go.WideMaps Go.Sort

/-- An own row of texts. -/
def OwnL (w : World) (base : Nat) (v : Value) (n : Nat) (L : List Nm) : Prop := w.ownsRow base 9 1 v n (L.map Value.string) ∧ L.length = n
set_option maxRecDepth 4000 in
theorem new_cellsV (W : World) (r : Array Value) (t : TypeId) : VL (W.alloc (.cells r t)) (W.alloc (.cells r t)).heap.size (some ⟨W.heap.size, 0, none⟩) r.toList := fun _ =>
  ⟨W.heap.size, 0, rfl, by simp, fun k u hk => by
    rw [Nat.zero_add, World.cell?_alloc_at _ _ _ _ rfl]
    simpa using hk⟩
def strAt (L : List Nm) (k : Nat) : Nm := L.getD k noN
set_option maxRecDepth 4000 in
theorem strAt_get {L : List Nm} {k : Nat} (h : k < L.length) : L[k]? = some (strAt L k) := by simp [strAt, List.getD, List.getElem?_eq_getElem h]
set_option maxRecDepth 4000 in
theorem strAt_mem {L : List Nm} {k : Nat} (h : k < L.length) : strAt L k ∈ L := List.mem_of_getElem? (strAt_get h)
set_option maxRecDepth 4000 in
theorem vl_str {w : World} {A : Option Addr} {L : List Nm} {k : Nat} (h : VL w w.heap.size A (L.map Value.string)) (hk : k < L.length) : ∃ b o, A = some ⟨b, o, none⟩ ∧ b < w.heap.size ∧ w.cell? ⟨b, o + k, none⟩ = some (.string (strAt L k)) := by
  obtain ⟨b, o, e, hb, hc⟩ := h (fun e => by have := congrArg List.length e; simp at this; rw [this] at hk; simp at hk)
  exact ⟨b, o, e, hb, hc k (.string (strAt L k)) (by rw [List.getElem?_map, strAt_get hk]; rfl)⟩
set_option maxRecDepth 4000 in
theorem nodup_leA {α : Type} [DecidableEq α] : ∀ (os L : List α), os.Nodup → (∀ x ∈ os, x ∈ L) → os.length ≤ L.length
  | [], _, _, _ => Nat.zero_le _
  | x :: os, L, hn, hs => by
    have hx : x ∈ L := hs x List.mem_cons_self
    have hn2 := List.nodup_cons.1 hn
    have h1 := nodup_leA os (L.erase x) hn2.2 (fun y hy => (List.mem_erase_of_ne (fun e => hn2.1 (by rw [← e]; exact hy))).2 (hs y (List.mem_cons_of_mem _ hy)))
    have h2 := List.length_erase_of_mem hx
    have h3 : 0 < L.length := List.length_pos_of_mem hx
    simp only [List.length_cons]
    omega
set_option maxRecDepth 4000 in
theorem nodup_le (os L : List Nm) (hn : os.Nodup) (hs : ∀ x ∈ os, x ∈ L) : os.length ≤ L.length := @nodup_leA Nm (fun a b => Classical.propDecidable (a = b)) os L hn hs
set_option maxRecDepth 4000 in
theorem bl_irrefl : ∀ a : List UInt8, Op.bytesLess a a = false
  | [] => rfl
  | a :: x => by
    rw [Op.bytesLess, bl_irrefl x]
    simp [UInt8.lt_irrefl]
set_option maxRecDepth 4000 in
theorem bl_trans : ∀ a b c : List UInt8, Op.bytesLess a b = true → Op.bytesLess b c = true → Op.bytesLess a c = true
  | [], [], _, h, _ => by simp [Op.bytesLess] at h
  | [], _ :: _, [], _, h => by simp [Op.bytesLess] at h
  | [], _ :: _, _ :: _, _, _ => rfl
  | _ :: _, [], _, h, _ => by simp [Op.bytesLess] at h
  | _ :: _, _ :: _, [], _, h => by simp [Op.bytesLess] at h
  | a :: x, b :: y, c :: z, h1, h2 => by
    simp only [Op.bytesLess, Bool.or_eq_true, Bool.and_eq_true, decide_eq_true_iff, beq_iff_eq] at h1 h2 ⊢
    rcases h1 with h1 | ⟨rfl, h1⟩
    · rcases h2 with h2 | ⟨rfl, h2⟩
      · exact Or.inl (UInt8.lt_trans h1 h2)
      · exact Or.inl h1
    · rcases h2 with h2 | ⟨rfl, h2⟩
      · exact Or.inl h2
      · exact Or.inr ⟨rfl, bl_trans x y z h1 h2⟩
set_option maxRecDepth 4000 in
theorem bl_total : ∀ a b : List UInt8, Op.bytesLess a b = false → Op.bytesLess b a = false → a = b
  | [], [], _, _ => rfl
  | [], _ :: _, h, _ => by simp [Op.bytesLess] at h
  | _ :: _, [], _, h => by simp [Op.bytesLess] at h
  | a :: x, b :: y, h1, h2 => by
    simp only [Op.bytesLess, Bool.or_eq_false_iff, decide_eq_false_iff_not, Bool.and_eq_false_imp, beq_iff_eq] at h1 h2
    have e : a = b := UInt8.le_antisymm (UInt8.not_lt.1 h2.1) (UInt8.not_lt.1 h1.1)
    subst e
    rw [bl_total x y (h1.2 rfl) (h2.2 rfl)]

def ltN (a b : Nm) : Bool := Op.bytesLess a.toList b.toList
/-- A text that may be the next. -/
def candQ (os : List Nm) (x : Nm) : Prop := x ≠ noN ∧ (os = [] ∨ ltN (strAt os (os.length - 1)) x = true)
/-- m is the least of those that may be next. -/
def LeastIs (os l : List Nm) (m : Nm) : Prop := (m = noN ∧ ∀ x ∈ l, ¬ candQ os x) ∨ (m ∈ l ∧ candQ os m ∧ ∀ x ∈ l, candQ os x → ltN x m = false)
set_option maxRecDepth 4000 in
theorem least_skip {os l : List Nm} {m x : Nm} (h : LeastIs os l m) (hx : ¬ candQ os x) : LeastIs os (l ++ [x]) m := by
  rcases h with ⟨rfl, h⟩ | ⟨h1, h2, h3⟩
  · exact .inl ⟨rfl, fun y hy => by
      rcases List.mem_append.1 hy with hy | hy
      · exact h y hy
      · rw [List.mem_singleton.1 hy]; exact hx⟩
  · exact .inr ⟨List.mem_append_left _ h1, h2, fun y hy hc => by
      rcases List.mem_append.1 hy with hy | hy
      · exact h3 y hy hc
      · rw [List.mem_singleton.1 hy] at hc; exact absurd hc hx⟩
set_option maxRecDepth 4000 in
theorem least_keep {os l : List Nm} {m x : Nm} (h : LeastIs os l m) (hm : m ≠ noN) (hx : ltN x m = false) : LeastIs os (l ++ [x]) m := by
  rcases h with ⟨e, _⟩ | ⟨h1, h2, h3⟩
  · exact absurd e hm
  · exact .inr ⟨List.mem_append_left _ h1, h2, fun y hy hc => by
      rcases List.mem_append.1 hy with hy | hy
      · exact h3 y hy hc
      · rw [List.mem_singleton.1 hy]; exact hx⟩
set_option maxRecDepth 4000 in
theorem least_new {os l : List Nm} {m x : Nm} (h : LeastIs os l m) (hc : candQ os x) (hx : m = noN ∨ ltN x m = true) : LeastIs os (l ++ [x]) x := by
  refine .inr ⟨List.mem_append_right _ (List.mem_singleton.2 rfl), hc, fun y hy hcy => ?_⟩
  rcases List.mem_append.1 hy with hy | hy
  · rcases h with ⟨_, h⟩ | ⟨h1, h2, h3⟩
    · exact absurd hcy (h y hy)
    · rcases hx with rfl | hx
      · exact absurd rfl h2.1
      · refine Bool.eq_false_iff.2 fun e => ?_
        have h5 := bl_trans _ _ _ e hx
        have h6 := h3 y hy hcy
        unfold ltN at h6
        rw [h5] at h6
        cases h6
  · rw [List.mem_singleton.1 hy]; exact bl_irrefl _
/-- What is told so far: it rises, and what is less than its last is in it. -/
structure UpTo (L os : List Nm) : Prop where
  up : os.Pairwise (fun a b => ltN a b = true)
  sub : ∀ x ∈ os, x ∈ L ∧ x ≠ noN
  all : ∀ x ∈ L, x ≠ noN → x ∈ os ∨ candQ os x
set_option maxRecDepth 4000 in
theorem UpTo.nodup {L os : List Nm} (h : UpTo L os) : os.Nodup := h.up.imp fun {a b} hab e => by
  subst e
  unfold ltN at hab
  rw [bl_irrefl] at hab
  cases hab
set_option maxRecDepth 4000 in
theorem UpTo.len {L os : List Nm} (h : UpTo L os) : os.length ≤ L.length := nodup_le os L h.nodup fun x hx => (h.sub x hx).1
set_option maxRecDepth 4000 in
theorem UpTo.start (L : List Nm) : UpTo L [] := ⟨List.Pairwise.nil, fun _ h => absurd h List.not_mem_nil, fun _ _ h => Or.inr ⟨h, Or.inl rfl⟩⟩
set_option maxRecDepth 4000 in
theorem last_lt {os : List Nm} (h : os.Pairwise (fun a b => ltN a b = true)) {x y : Nm} (hx : x ∈ os) (hy : ltN (strAt os (os.length - 1)) y = true) : ltN x y = true := by
  obtain ⟨i, hi, rfl⟩ := List.getElem_of_mem hx
  rcases Nat.lt_or_ge i (os.length - 1) with h1 | h1
  · have h2 := List.pairwise_iff_getElem.1 h i (os.length - 1) hi (by omega) h1
    have e : strAt os (os.length - 1) = os[os.length - 1]'(by omega) := by simp [strAt, List.getD, show os.length - 1 < os.length by omega]
    rw [e] at hy
    exact bl_trans _ _ _ h2 hy
  · have e : strAt os (os.length - 1) = os[i] := by
      have : os.length - 1 = i := by omega
      simp [strAt, List.getD, this, hi]
    rw [e] at hy
    exact hy
set_option maxRecDepth 4000 in
theorem UpTo.more {L os : List Nm} {m : Nm} (h : UpTo L os) (hm : LeastIs os L m) (hn : m ≠ noN) : UpTo L (os ++ [m]) := by
  rcases hm with ⟨e, _⟩ | ⟨h1, h2, h3⟩
  · exact absurd e hn
  have hl : strAt (os ++ [m]) ((os ++ [m]).length - 1) = m := by simp [strAt, List.getD]
  refine ⟨?_, fun x hx => ?_, fun x hx hxn => ?_⟩
  · refine List.pairwise_append.2 ⟨h.up, List.pairwise_singleton _ _, fun a ha b hb => ?_⟩
    rw [List.mem_singleton.1 hb]
    rcases h2.2 with e | e
    · rw [e] at ha; cases ha
    · exact last_lt h.up ha e
  · rcases List.mem_append.1 hx with hx | hx
    · exact h.sub x hx
    · rw [List.mem_singleton.1 hx]; exact ⟨h1, hn⟩
  · rcases h.all x hx hxn with h4 | h4
    · exact .inl (List.mem_append_left _ h4)
    · have h5 := h3 x hx h4
      cases h6 : ltN m x
      · refine .inl (List.mem_append_right _ (List.mem_singleton.2 ?_))
        exact nm_inj (bl_total _ _ h5 h6)
      · exact .inr ⟨hxn, .inr (by rw [hl]; exact h6)⟩
set_option maxRecDepth 4000 in
theorem UpTo.end_ {L os : List Nm} (h : UpTo L os) (hm : LeastIs os L noN) (x : Nm) : x ∈ os ↔ x ∈ L ∧ x ≠ noN := by
  refine ⟨h.sub x, fun ⟨h1, h2⟩ => ?_⟩
  rcases hm with ⟨_, h3⟩ | ⟨_, h3, _⟩
  · rcases h.all x h1 h2 with h4 | h4
    · exact h4
    · exact absurd h4 (h3 x h1)
  · exact absurd rfl h3.1
/-- Names told by the document: just those that S takes, in an own row. -/
def NewNs (w : World) (S : Nm → Prop) (e : Ending) (w' : World) : Prop := ∃ (A : Option Addr) (n c : Nat) (ts : List Nm), e = .returned (.slice A n c) ∧ n ≤ 3000 ∧ OwnL w' w.heap.size (.slice A n c) n ts ∧ (∀ k, k ∈ ts ↔ S k) ∧ Below w.heap.size w w'
def lenV : Value → Nat
  | .slice _ n _ => n
  | _ => 0

set_option maxRecDepth 4000 in
/-- Four texts of a rule, two of a pair. -/
theorem own_more {w' : World} {base n : Nat} {A : Option Addr} {c : Nat} {L M : List Nm} {xs : List Value} (hl : L.length = n) (hx : xs = M.map Value.string) {k : Nat} (hk : M.length = k) (ho : w'.ownsRow base 9 1 (.slice A (n + k) c) (n + k) (L.map Value.string ++ xs)) : OwnL w' base (.slice A (n + k) c) (n + k) (L ++ M) := by
  subst hx
  refine ⟨by rw [List.map_append]; exact ho, by rw [List.length_append, hl, hk]⟩
set_option maxRecDepth 4000 in
theorem own_lower {w : World} {b b' n size : Nat} {t : TypeId} {v : Value} {xs : List Value} (h : w.ownsRow b t size v n xs) (hb : b' ≤ b) : w.ownsRow b' t size v n xs := by
  rcases h.2 with e | ⟨g, cap, cur, e, hbg, hr⟩
  · exact ⟨h.1, .inl e⟩
  · exact ⟨h.1, .inr ⟨g, cap, cur, e, Nat.le_trans hb hbg, hr⟩⟩
set_option maxRecDepth 100000 in
set_option maxHeartbeats 16000000 in
theorem rnames_any {w : World} {c : ScC} {s : SchT} (h : ScAt w c s) (hby : (s.rules.length + 1) * 112 ≤ 140737488355328) (hl : s.rules.length ≤ 32) (hk : ∀ r ∈ allT s, r.kids.length ≤ 32) : Calls Try.prog 51 #[.agg c.row] w (NewNs w (fun k => k ∈ rawT s ∧ k ≠ noN)) := by
  have hb : Below w.heap.size w (w.alloc (.cells c.row 30)) := (Below.refl _ _).alloc (Nat.le_refl _) _
  have hv := VarR.new w 30 c.row
  obtain ⟨W0, hW⟩ : ∃ W0, w.alloc (.cells c.row 30) = W0 := ⟨_, rfl⟩
  rw [hW] at hb hv
  have HRU := hd (rall15_any (h.later hb) hby)
  have HB := hd hb
  have V1 := hd hv
  have HK := hd hk
  have HW := hd hW
  have hlen : (allT s).length = s.rules.length + 1 := by simp [allT]
  have HLN := hd hlen
  have HLL := hd hl
  clear h hl hk hb hv hW hlen hby
  go_enter Try.func51, Try.ntmps51
  go_upto_region 1 with fail
  rw [HW.out]
  go_wp2_with (first
    | ((with_reducible refine gd_load (ty := 30) (x := .tmp 1) ?_); refine wpList_load_row rowT_sch V1.out rfl _ rfl rfl rfl ?_)
    | (go_at_call 19; refine HRU.out.mono ?_; rintro e9 w4 ⟨A4, n4, c4, ds, rfl, hn4, hu4, b9⟩; have HU := hd hu4; have HN4 := hd hn4; have HB := hd (step_b HB.out b9); clear hn4 hu4 b9))
  have hn33 : n4 ≤ 33 := by have h1 := HN4.out; have h2 := HLN.out; have h3 := HLL.out; omega
  clear V1 HRU HW
  go_loopw [3, 15] (fun v i wr => ∃ (k m : Nat) (A : Option Addr) (cp : Nat), k ≤ n4 ∧ i = .int .i64 k ∧ v = .slice A m cp ∧ m ≤ k * 68 ∧ Hid (OwnL wr w4.heap.size (.slice A m cp) m (((allT s).take k).flatMap rawR)) ∧ Hid (Below w4.heap.size w4 wr)) (fun _ i _ => n4 - (intOf i).toNat)
  case atStart => exact ⟨0, 0, none, 0, Nat.zero_le _, rfl, rfl, by omega, hd ⟨World.ownsRow_nil _ _ _ _, rfl⟩, hd (Below.refl _ _)⟩
  case round =>
    obtain ⟨k, m, A, cp, hk1, rfl, rfl, hm68, HO, HB4⟩ := hrel
    by_cases hlt : k < n4
    · have hlt2 : k < (allT s).length := by rw [HN4.out]; exact hlt
      have HRA := hd ((HU.out.later HB4.out).ru hlt2)
      obtain ⟨b, o, hR, hbl, hrg⟩ := (rowA_rules HN4.out (HU.out.later HB4.out)).2 k hlt
      obtain rfl : A4 = some ⟨b, o, none⟩ := hR
      obtain ⟨p, hp⟩ : ∃ p, ruAt ds k = p := ⟨_, rfl⟩
      simp only [hp] at hrg
      rw [hp] at HRA
      have HRG := hd hrg
      have HKL := hd (HK.out (rulAt (allT s) k) (by rw [rulAt_mem hlt2]; exact List.getElem_mem _))
      obtain ⟨ty, td, tt, od, ot, KA, nk, ck, fill, fty⟩ := p
      have HNK := hd (show (rulAt (allT s) k).kids.length = nk from HRA.out.len)
      have hnk : nk ≤ 32 := HNK.out ▸ HKL.out
      obtain ⟨g, hg⟩ : ∃ g, wr.heap.size = g := ⟨_, rfl⟩
      obtain ⟨W2, hW2⟩ : ∃ W2, wr.alloc (.cells (RuC.mk ty td tt od ot KA nk ck fill fty).row 27) = W2 := ⟨_, rfl⟩
      have hb2 : Below wr.heap.size wr W2 := hW2 ▸ (Below.refl _ _).alloc (Nat.le_refl _) _
      have hv2 : VarR 27 W2 g (RuC.mk ty td tt od ot KA nk ck fill fty).row := by rw [← hW2, ← hg]; exact VarR.new wr _ _
      have V5 := hd hv2
      have HB2 := hd (step_b HB4.out hb2)
      have HO2 := hd (show OwnL W2 w4.heap.size (.slice A m cp) m (((allT s).take k).flatMap rawR) from ⟨hW2 ▸ HO.out.1.alloc _, HO.out.2⟩)
      have HW2 := hd hW2
      have HG := hd hg
      have HGW := hd (show w4.heap.size ≤ g by rw [← hg]; exact HB4.out.size)
      have y0 : W2.cell? ⟨g, 0, none⟩ = some (.string ty) := hv2.cell 0 _ rfl
      have y2 : W2.cell? ⟨g, 2, none⟩ = some (.string tt) := hv2.cell 2 _ rfl
      have y4 : W2.cell? ⟨g, 4, none⟩ = some (.string ot) := hv2.cell 4 _ rfl
      have y7 : W2.cell? ⟨g, 7, none⟩ = some (.string fty) := hv2.cell 7 _ rfl
      have HP := hd hp
      clear hb2 hW2 hg hv2 hrg hbl hp
      go_upto_region 5 with (first
        | ((with_reducible refine gd_load (ty := 27) (x := .tmp 17) ?_); refine wpList_load_at rowT_rule (r := (RuC.mk ty td tt od ot KA nk ck fill fty).row) HRG.out rfl _ rfl rfl rfl ?_)
        | ((with_reducible refine gd_store (ty := 27) (x := .tmp 5) ?_); refine wpList_store_new rowT_rule (r := (RuC.mk ty td tt od ot KA nk ck fill fty).row) rfl rfl (RuC.one _) _ _ rfl rfl rfl rfl rfl rfl ?_))
      rw [HW2.out, HG.out]
      go_upto_region 6 with (at_builtin; refine wpList_append_GX strG _ rfl (.tmp 19) (.tmp 30) rfl w4.heap.size _ m _ rfl (HO2.out.1.alloc _) (some ⟨W2.heap.size, 0, none⟩) 4 4 _ [.string ty, .string tt, .string ot, .string fty] rfl rfl (new_cellsV W2 #[.string ty, .string tt, .string ot, .string fty] _) (by simp [Value.oneCell']) (by unfold maxLen; omega) (by omega) (by have := HB2.out.size; simp; omega) ?_; intro A3 c3 w3 ho3 hg3 hat3)
      have HLTG := hd (show ∀ j, (Value.slice A m cp).ownBlock = some j → j < g by
        intro j hj
        have h1 := (HO.out.1.lt j hj).2
        rw [HG.out] at h1
        exact h1)
      have HO3 := hd (own_more (M := [ty, tt, ot, fty]) (k := 4) HO2.out.2 rfl rfl ho3)
      have HB3 := hd (agrown_below (HB2.out.alloc HB2.out.size _) hg3 (fun j hj => (HO2.out.1.lt j hj).1))
      have V5 := hd (show VarR 27 w3 g (RuC.mk ty td tt od ot KA nk ck fill fty).row from (hg3.block _ (V5.out.alloc _).lt (fun e => by have := HLTG.out g e.symm; omega)).trans (V5.out.alloc _))
      have l5 : w3.cell? ⟨g, 5, none⟩ = some (.slice KA nk ck) := V5.out.cell 5 _ rfl
      have HHR := hd (show headR (rulAt (allT s) k) = [ty, tt, ot, fty] by
        have e1 : (rulAt (allT s) k).ty = ty := HRA.out.hty
        have e2 : (rulAt (allT s) k).text.ty = tt := by rw [HRA.out.htext]
        have e3 : (rulAt (allT s) k).other.ty = ot := by rw [HRA.out.hother]
        have e4 : (rulAt (allT s) k).fty = fty := HRA.out.hfty
        unfold headR
        rw [e1, e2, e3, e4])
      rw [← HHR.out] at HO3
      clear ho3 hg3 hat3 y0 y2 y4 y7 HO HO2 HHR HLTG HW2 HG HB2 V5 HGW HRG
      go_wp2_with fail
      clear l5
      go_loopw [3, 35] (fun v i wq => ∃ (j m2 : Nat) (A2 : Option Addr) (c2 : Nat), j ≤ nk ∧ i = .int .i64 j ∧ v = .slice A2 m2 c2 ∧ m2 ≤ k * 68 + 4 + 2 * j ∧ Hid (OwnL wq w4.heap.size (.slice A2 m2 c2) m2 (((allT s).take k).flatMap rawR ++ headR (rulAt (allT s) k) ++ tailK ((rulAt (allT s) k).kids.take j))) ∧ Hid (Below w4.heap.size w4 wq)) (fun _ i _ => nk - (intOf i).toNat)
      case atStart => exact ⟨0, m + 4, A3, c3, Nat.zero_le _, rfl, rfl, by omega, hd (by simpa [tailK] using HO3.out), HB3⟩
      case round =>
        obtain ⟨j, m2, A2, c2, hj1, rfl, rfl, hm2, HOq, HBq⟩ := hrel
        clear HO3 HB3 HB4
        by_cases hlj : j < nk
        · have hlj2 : j < (rulAt (allT s) k).kids.length := by rw [HNK.out]; exact hlj
          have HRQ := hd (show RuAt wr (RuC.mk ty td tt od ot KA nk ck fill fty) (rulAt (allT s) k) from by
            have h1 := (HU.out.later HBq.out).ru hlt2
            rw [HP.out] at h1
            exact h1)
          obtain ⟨kb, ko, hKA, hkl, hkr⟩ := HRQ.out.kid hlj2
          obtain rfl : KA = some ⟨kb, ko, none⟩ := hKA
          obtain ⟨q, hq⟩ : ∃ q, kidAt (rulAt (allT s) k).kids j = q := ⟨_, rfl⟩
          rw [hq] at hkr
          have HKR := hd hkr
          have HQ := hd hq
          obtain ⟨qt, ⟨qa, qw⟩⟩ := q
          obtain ⟨g, hg⟩ : ∃ g, wr.heap.size = g := ⟨_, rfl⟩
          obtain ⟨W2, hW2⟩ : ∃ W2, wr.alloc (.cells (PairT.mk qt ⟨qa, qw⟩).row 52) = W2 := ⟨_, rfl⟩
          have hb2 : Below wr.heap.size wr W2 := hW2 ▸ (Below.refl _ _).alloc (Nat.le_refl _) _
          have hv2 : VarR 52 W2 g (PairT.mk qt ⟨qa, qw⟩).row := by rw [← hW2, ← hg]; exact VarR.new wr _ _
          have HB2 := hd (step_b HBq.out hb2)
          have HO2 := hd (show OwnL W2 w4.heap.size (.slice A2 m2 c2) m2 (((allT s).take k).flatMap rawR ++ headR (rulAt (allT s) k) ++ tailK ((rulAt (allT s) k).kids.take j)) from ⟨hW2 ▸ HOq.out.1.alloc _, HOq.out.2⟩)
          have HW2 := hd hW2
          have HG := hd hg
          have y0 : W2.cell? ⟨g, 0, none⟩ = some (.string qt) := hv2.cell 0 _ rfl
          have y2 : W2.cell? ⟨g, 2, none⟩ = some (.string qw) := hv2.cell 2 _ rfl
          clear hb2 hW2 hg hv2 hkr hkl hq
          go_upto_region 9 with (first
            | ((with_reducible refine gd_load (ty := 52) (x := .tmp 37) ?_); refine wpList_load_at rowT_pair (r := (PairT.mk qt ⟨qa, qw⟩).row) HKR.out rfl _ rfl rfl rfl ?_)
            | ((with_reducible refine gd_store (ty := 52) (x := .tmp 7) ?_); refine wpList_store_new rowT_pair (r := (PairT.mk qt ⟨qa, qw⟩).row) rfl rfl (PairT.one _) _ _ rfl rfl rfl rfl rfl rfl ?_))
          rw [HW2.out, HG.out]
          go_wp2_with (at_builtin; refine wpList_append_GX strG _ rfl (.tmp 39) (.tmp 45) rfl w4.heap.size _ m2 _ rfl (HO2.out.1.alloc _) (some ⟨W2.heap.size, 0, none⟩) 2 2 _ [.string qt, .string qw] rfl rfl (new_cellsV W2 #[.string qt, .string qw] _) (by simp [Value.oneCell']) (by unfold maxLen; omega) (by omega) (by have := HB2.out.size; simp; omega) ?_; intro A3 c3 w3 ho3 hg3 hat3)
          have HO3 := hd (own_more (M := [qt, qw]) (k := 2) HO2.out.2 rfl rfl ho3)
          have HB3 := hd (agrown_below (HB2.out.alloc HB2.out.size _) hg3 (fun j hj => (HO2.out.1.lt j hj).1))
          have HT := hd (tailK_step hlj2)
          rw [HQ.out] at HT
          clear ho3 hg3 hat3 y0 y2
          go_roundw
          case rel => exact ⟨j + 1, m2 + 2, A3, c3, by omega, by go_num, rfl, by omega, hd (by rw [HT.out, ← List.append_assoc]; exact HO3.out), HB3⟩
          case measure => simp [intOf]; omega
        · obtain rfl : j = nk := by omega
          have HX := hd (show OwnL wr w4.heap.size (.slice A2 m2 c2) m2 (((allT s).take (k + 1)).flatMap rawR) by
            have h1 := HOq.out
            rw [List.take_of_length_le (l := (rulAt (allT s) k).kids) (i := j) (by rw [HNK.out]; exact Nat.le_refl _), List.append_assoc, ← rawR_parts, ← rawT_step hlt2] at h1
            exact h1)
          clear HOq
          go_wp2_with fail
          go_roundw
          case rel => exact ⟨k + 1, m2, A2, c2, by omega, by go_num, rfl, by omega, HX, HBq⟩
          case measure => simp [intOf]; omega
    · obtain rfl : k = n4 := by omega
      have HL := hd (show OwnL wr w4.heap.size (.slice A m cp) m (rawT s) by
        have h1 := HO.out
        rw [List.take_of_length_le (by rw [HN4.out]; exact Nat.le_refl _)] at h1
        exact h1)
      have HVL := hd (arow_vl HL.out.1).2
      have HBF := hd (step_b HB.out HB4.out)
      have hm99 : m ≤ 2244 := by omega
      obtain ⟨L, hL⟩ : ∃ L, rawT s = L := ⟨_, rfl⟩
      rw [hL] at HL HVL
      have HS := hd (fun k : Nm => show k ∈ L ∧ k ≠ noN ↔ k ∈ rawT s ∧ k ≠ noN by rw [hL])
      have HLL := hd (show L.length = m from HL.out.2)
      clear HO hL HL HB4 HK HB
      obtain ⟨w5, hw5⟩ : ∃ w5, w5 = wr := ⟨_, rfl⟩
      subst hw5
      go_wp2_with fail
      go_loopw [8] (fun v wr' => ∃ (n : Nat) (A2 : Option Addr) (c2 : Nat) (os : List Nm), v = .slice A2 n c2 ∧ Hid (OwnL wr' w5.heap.size (.slice A2 n c2) n os) ∧ Hid (UpTo L os) ∧ Hid (Below w5.heap.size w5 wr')) (fun v _ => m + 1 - lenV v)
      case atStart => exact ⟨0, none, 0, [], rfl, hd ⟨World.ownsRow_nil _ _ _ _, rfl⟩, hd (UpTo.start L), hd (Below.refl _ _)⟩
      case round =>
        obtain ⟨n, A2, c2, os, rfl, HO, HU3, HB5⟩ := hrel
        have hnm : n ≤ m := by rw [← HO.out.2, ← HLL.out]; exact HU3.out.len
        go_wp2_with fail
        go_loopw [9, 51] (fun v i wz => ∃ (j : Nat) (y : Nm), j ≤ m ∧ i = .int .i64 j ∧ v = .string y ∧ Hid (LeastIs os (L.take j) y) ∧ Hid (OwnL wz w5.heap.size (.slice A2 n c2) n os) ∧ Hid (Below w5.heap.size w5 wz)) (fun _ i _ => m - (intOf i).toNat)
        case atStart => exact ⟨0, noN, Nat.zero_le _, rfl, rfl, hd (.inl ⟨rfl, fun x h => absurd h List.not_mem_nil⟩), HO, HB5⟩
        case round =>
          obtain ⟨j, y, hj1, rfl, rfl, HLE, HOz, HBz⟩ := hrel
          clear HO HB5
          by_cases hlj : j < m
          · have hlj2 : j < L.length := by rw [HLL.out]; exact hlj
            obtain ⟨b, o, hA, hbl, hc⟩ := vl_str (HVL.out.later HBz.out) hlj2
            subst hA
            obtain ⟨x, hx⟩ : ∃ x, strAt L j = x := ⟨_, rfl⟩
            have HTK := hd (show L.take (j + 1) = L.take j ++ [x] by
              rw [List.take_add_one, strAt_get hlj2, hx]
              rfl)
            rw [hx] at hc
            clear hx hbl
            by_cases hx0 : x = noN
            · have HR := hd (show LeastIs os (L.take (j + 1)) y by rw [HTK.out]; exact least_skip HLE.out (fun h => h.1 hx0))
              obtain rfl : x = ⟨#[]⟩ := hx0
              clear HLE
              go_wp2_with fail
              go_roundw
              case rel => exact ⟨j + 1, y, by omega, by go_num, rfl, HR, HOz, HBz⟩
              case measure => simp [intOf]; omega
            · have hx1 : x.toList ≠ [] := fun h => hx0 (nm_inj (by rw [h, noN_list]))
              have hx2 : x.toList.isEmpty = false := by
                cases h : x.toList with
                | nil => exact absurd h hx1
                | cons => rfl
              have HX0 := hd hx0
              clear hx0
              by_cases hn0 : n = 0
              · have hos : os = [] := List.eq_nil_of_length_eq_zero (by rw [HOz.out.2, hn0])
                subst hn0
                have HCQ := hd (show candQ os x from ⟨HX0.out, .inl hos⟩)
                clear hos
                skip
                by_cases hy0 : y = noN
                · have HR := hd (show LeastIs os (L.take (j + 1)) x by rw [HTK.out]; exact least_new HLE.out HCQ.out (.inl hy0))
                  obtain rfl : y = ⟨#[]⟩ := hy0
                  clear HLE
                  go_wp2_with fail
                  go_roundw
                  case rel => exact ⟨j + 1, x, by omega, by go_num, rfl, HR, HOz, HBz⟩
                  case measure => simp [intOf]; omega
                · have hy1 : y.toList ≠ [] := fun h => hy0 (nm_inj (by rw [h, noN_list]))
                  have hy2 : y.toList.isEmpty = false := by
                    cases h : y.toList with
                    | nil => exact absurd h hy1
                    | cons => rfl
                  cases hlt9 : Op.bytesLess x.toList y.toList
                  · have HR := hd (show LeastIs os (L.take (j + 1)) y by rw [HTK.out]; exact least_keep HLE.out hy0 hlt9)
                    clear HLE hy0
                    go_wp2_with fail
                    go_roundw
                    case rel => exact ⟨j + 1, y, by omega, by go_num, rfl, HR, HOz, HBz⟩
                    case measure => simp [intOf]; omega
                  · have HR := hd (show LeastIs os (L.take (j + 1)) x by rw [HTK.out]; exact least_new HLE.out HCQ.out (.inr hlt9))
                    clear HLE hy0
                    go_wp2_with fail
                    go_roundw
                    case rel => exact ⟨j + 1, x, by omega, by go_num, rfl, HR, HOz, HBz⟩
                    case measure => simp [intOf]; omega
              · have hn1 : ((n : Int) == 0) = false := by simpa using hn0
                have hn2 : 0 < n := by omega
                obtain ⟨b2, o2, hA2, hbl2, hc2⟩ := vl_str (k := n - 1) (arow_vl HOz.out.1).2 (by rw [HOz.out.2]; omega)
                subst hA2
                obtain ⟨z, hz⟩ : ∃ z, strAt os (n - 1) = z := ⟨_, rfl⟩
                have HZ := hd (show strAt os (os.length - 1) = z by rw [HOz.out.2]; exact hz)
                have HNE := hd (show os ≠ [] by intro h; have h1 := HOz.out.2; rw [h] at h1; simp at h1; omega)
                rw [hz] at hc2
                clear hz hbl2
                cases hgt : (Op.bytesLess x.toList z.toList || x.toList == z.toList)
                · have HCQ := hd (show candQ os x from ⟨HX0.out, .inr (by
                    rw [HZ.out]
                    rw [Bool.or_eq_false_iff] at hgt
                    unfold ltN
                    cases h : Op.bytesLess z.toList x.toList
                    · have h1 := bl_total _ _ hgt.1 h
                      rw [h1] at hgt
                      simp at hgt
                    · rfl)⟩)
                  skip
                  by_cases hy0 : y = noN
                  · have HR := hd (show LeastIs os (L.take (j + 1)) x by rw [HTK.out]; exact least_new HLE.out HCQ.out (.inl hy0))
                    obtain rfl : y = ⟨#[]⟩ := hy0
                    clear HLE
                    go_wp2_with fail
                    go_roundw
                    case rel => exact ⟨j + 1, x, by omega, by go_num, rfl, HR, HOz, HBz⟩
                    case measure => simp [intOf]; omega
                  · have hy1 : y.toList ≠ [] := fun h => hy0 (nm_inj (by rw [h, noN_list]))
                    have hy2 : y.toList.isEmpty = false := by
                      cases h : y.toList with
                      | nil => exact absurd h hy1
                      | cons => rfl
                    cases hlt9 : Op.bytesLess x.toList y.toList
                    · have HR := hd (show LeastIs os (L.take (j + 1)) y by rw [HTK.out]; exact least_keep HLE.out hy0 hlt9)
                      clear HLE hy0
                      go_wp2_with fail
                      go_roundw
                      case rel => exact ⟨j + 1, y, by omega, by go_num, rfl, HR, HOz, HBz⟩
                      case measure => simp [intOf]; omega
                    · have HR := hd (show LeastIs os (L.take (j + 1)) x by rw [HTK.out]; exact least_new HLE.out HCQ.out (.inr hlt9))
                      clear HLE hy0
                      go_wp2_with fail
                      go_roundw
                      case rel => exact ⟨j + 1, x, by omega, by go_num, rfl, HR, HOz, HBz⟩
                      case measure => simp [intOf]; omega
                · have HR := hd (show LeastIs os (L.take (j + 1)) y by
                    rw [HTK.out]
                    refine least_skip HLE.out fun h => ?_
                    rcases h.2 with h | h
                    · exact HNE.out h
                    · rw [HZ.out] at h
                      unfold ltN at h
                      rw [Bool.or_eq_true] at hgt
                      rcases hgt with hgt | hgt
                      · have h1 := bl_trans _ _ _ h hgt
                        rw [bl_irrefl] at h1
                        cases h1
                      · rw [eq_of_beq hgt, bl_irrefl] at h
                        cases h)
                  clear HLE
                  go_wp2_with fail
                  go_roundw
                  case rel => exact ⟨j + 1, y, by omega, by go_num, rfl, HR, HOz, HBz⟩
                  case measure => simp [intOf]; omega
          · obtain rfl : j = m := by omega
            have HLS := hd (show LeastIs os L y by
              have h1 := HLE.out
              rw [List.take_of_length_le (by rw [HLL.out]; exact Nat.le_refl _)] at h1
              exact h1)
            clear HLE
            by_cases hy0 : y = noN
            · have HEN := hd (fun x => HU3.out.end_ (hy0 ▸ HLS.out) x)
              obtain rfl : y = ⟨#[]⟩ := hy0
              go_wp2_with fail
              go_ret
              have hbase := HBF.out.size
              refine ⟨A2, n, c2, os, rfl, by omega, ⟨own_lower HOz.out.1 hbase, HOz.out.2⟩, fun x => ?_, step_b HBF.out HBz.out⟩
              rw [HEN.out x]
              exact HS.out x
            · have hy1 : y.toList ≠ [] := fun h => hy0 (nm_inj (by rw [h, noN_list]))
              have hy2 : y.toList.isEmpty = false := by
                cases h : y.toList with
                | nil => exact absurd h hy1
                | cons => rfl
              have HUN := hd (HU3.out.more HLS.out hy0)
              clear hy0 HLS
              go_wp2_with (at_builtin; refine wpList_append_GX strG _ rfl (.tmp 86) (.tmp 88) rfl w5.heap.size _ n _ rfl (HOz.out.1.alloc _) (some ⟨wr.heap.size, 0, none⟩) 1 1 _ [.string y] rfl rfl (new_cellsV wr #[.string y] _) (by simp [Value.oneCell']) (by unfold maxLen; omega) (by omega) (by have := HBz.out.size; simp; omega) ?_; intro A3 c3 w6 ho3 hg3 hat3)
              have HO6 := hd (own_more (M := [y]) (k := 1) HOz.out.2 rfl rfl ho3)
              have HB6 := hd (agrown_below (HBz.out.alloc HBz.out.size _) hg3 (fun j hj => (HOz.out.1.lt j hj).1))
              clear ho3 hg3 hat3
              go_roundw
              case rel => exact ⟨n + 1, A3, c3, os ++ [y], rfl, HO6, HUN, HB6⟩
              case measure => simp [lenV]; omega

end Go.Proofs.Ytegaapeaeffgoaa
