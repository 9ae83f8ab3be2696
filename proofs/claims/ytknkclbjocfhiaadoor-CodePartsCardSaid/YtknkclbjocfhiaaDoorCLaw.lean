/- What the laws of this layer lean on: Parse told in numbers, a node in a variable. -/
import Derived.Test.YtknkclbjocfhiaaDoorCParsed
import Derived.Test.YtknkclbjocfhiaaDoorCPrints
import Derived.Test.YtknkclbjocfhiaaDoorGDoc
import Derived.Test.YtknkclbjocfhiaaDoorNRSame
namespace Go.Proofs.YtknkclbjocfhiaaDoor
open Go.RowKit

/-- What Parse tells, as numbers. -/
def Parsed (m : NT) (p er : Int) (w : World) (e : Ending) (w' : World) : Prop :=
  ∃ lf PA np pc TA nt tc KA nk kc d, e = .returned (.tuple #[.agg #[.bool lf, .slice PA np pc, .slice TA nt tc, .slice KA nk kc], .int .i64 p, .int .i64 er]) ∧ NodeAt d w' w'.heap.size (.agg #[.bool lf, .slice PA np pc, .slice TA nt tc, .slice KA nk kc]) m ∧ Below w.heap.size w w'
set_option maxRecDepth 4000 in
theorem parse_call (S : ByteArray) (l : List UInt8) (hS : S.data.toList = l) (m : NT) (q : Nat) (p er : Int) (hr : parseL l = (m, q, er)) (hp : p = (q : Int)) (hs : S.size ≤ 40000) (w : World) : Calls Tryd.prog 13 #[.string S] w (Parsed m p er w) := by
  refine (parse_any S w hs).mono ?_
  rintro e w' ⟨u, d, rfl, ht, hb⟩
  rw [hS, hr] at *
  have hn := ht.at_ (B := w'.heap.size) fun b hb => hb.2
  obtain ⟨lf, PA, np, pc, TA, nt, tc, KA, nk, kc, rfl⟩ := hn.val
  exact ⟨_, _, _, _, _, _, _, _, _, _, d, by rw [hp], hn, hb⟩
set_option maxRecDepth 4000 in
theorem noT_at (w : World) (B : Nat) : NodeAt 1 w B (.agg #[.bool false, .slice none 0 0, .slice none 0 0, .slice none 0 0]) noT := (noT_tree (fun b => b < B) w).at_ fun _ h => h
set_option maxRecDepth 4000 in
theorem below_v4 {w w' : World} (h : Below w.heap.size w w') (cs : Array Value) (t : TypeId) : Below w.heap.size w (w'.alloc (.cells cs t)) := h.alloc h.size _
set_option maxRecDepth 4000 in
theorem print_bytes {n : NT} (h : checkT n = 0) : (bs (printS n)).data.toList = txtT n := by unfold printS; rw [if_pos h]; rfl
set_option maxRecDepth 4000 in
theorem print_none {n : NT} (h : checkT n ≠ 0) : bs (printS n) = ⟨#[]⟩ := by unfold printS; rw [if_neg h]; rfl
set_option maxRecDepth 4000 in
theorem isEmpty_of (S : ByteArray) : S.toList.isEmpty = decide (S.size = 0) := by
  rw [ByteArray.toList_eq]
  have := data_size S
  cases h : S.data.toList with
  | nil => rw [h] at this; exact (decide_eq_true this.symm).symm
  | cons a l => rw [h] at this; exact (decide_eq_false (by simp only [List.length_cons] at this; omega)).symm
set_option maxRecDepth 4000 in
theorem nodeAt_deep {w : World} {B : Nat} : ∀ {d d' : Nat} {v : Value} {n : NT}, d ≤ d' → NodeAt d w B v n → NodeAt d' w B v n
  | 0, _, _, _, _, h => h.elim
  | d + 1, 0, _, _, h, _ => absurd h (Nat.not_succ_le_zero _)
  | d + 1, d' + 1, _, _, hd, ⟨PA, pc, TA, tc, KA, kc, e, hp, ht, hf, hks⟩ => ⟨PA, pc, TA, tc, KA, kc, e, hp, ht, hf, fun k m hm => by
      obtain ⟨b, o, u, e1, hb, hn, hc⟩ := hks k m hm
      exact ⟨b, o, u, e1, hb, nodeAt_deep (Nat.le_of_succ_le_succ hd) hn, hc⟩⟩

end Go.Proofs.YtknkclbjocfhiaaDoor
