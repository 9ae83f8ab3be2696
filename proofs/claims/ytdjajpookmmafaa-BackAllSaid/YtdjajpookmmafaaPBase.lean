/- The plain answers of layer 1, as functions on lists of pairs of texts: no program is named here. The calls on single bytes and on keys and values answer what the plain functions say; the world stays as it was. Lists of properties in memory: what a slice's cells hold, carried over whatever leaves old blocks as they were. Get answers the first property whose key is asked for; old memory stays as it was. Check answers what is wrong with a list first; old memory stays as it was. Same, and the library call under it, answer whether two lists are one; old memory stays as it was. -/
import Derived.Laws.Strings
import Derived.Test.YtdjajpookmmafaaGMem
import Derived.Deep.Draws
import Derived.Deep.QuietTactic
import Derived.BigQuiet
namespace Go.Proofs.Ytdjajpookmmafaa

abbrev Pr := ByteArray × ByteArray
def noPr : Pr := (ByteArray.empty, ByteArray.empty)
def isLet (c : UInt8) : Bool := decide (97 ≤ (c.toNat : Int)) && decide ((c.toNat : Int) ≤ 122)
def isDig (c : UInt8) : Bool := decide (48 ≤ (c.toNat : Int)) && decide ((c.toNat : Int) ≤ 57)
def isVal (c : UInt8) : Bool := isLet c || isDig c || ((c.toNat : Int) == 45)
def keyB (s : ByteArray) : Bool := decide (1 ≤ s.size) && decide (s.size ≤ 16) && s.data.toList.all isLet
def valB (s : ByteArray) : Bool := decide (s.size ≤ 32) && s.data.toList.all isVal
def leB (a b : ByteArray) : Bool := Op.bytesLess a.toList b.toList || a.toList == b.toList

def prAt (l : List Pr) (k : Nat) : Pr := l.getD k noPr
def stepE (l : List Pr) (k : Nat) : Int :=
  if (keyB (prAt l k).1 && valB (prAt l k).2) = false then 3 else if (decide (0 < k) && leB (prAt l k).1 (prAt l (k - 1)).1) = true then 1 else 0
def firstE (l : List Pr) : Int := (((List.range l.length).map (stepE l)).find? (· != 0)).getD 0
def chk (l : List Pr) : Int := if 16 < l.length then 2 else firstE l

set_option maxRecDepth 4000 in
theorem firstE_none (l : List Pr) (h : ∀ j, j < l.length → stepE l j = 0) : firstE l = 0 := by
  unfold firstE
  rw [List.find?_eq_none.2]
  · rfl
  · intro x hx
    obtain ⟨j, hj, rfl⟩ := List.mem_map.1 hx
    simp [h j (List.mem_range.1 hj)]

set_option maxRecDepth 4000 in
theorem find_first {α : Type} (f : Nat → α) (p : α → Bool) : ∀ (n k : Nat), k < n → (∀ j, j < k → p (f j) = false) → p (f k) = true → ((List.range n).map f).find? p = some (f k) := by
  intro n
  induction n with
  | zero => intro k h; omega
  | succ n ih =>
    intro k hk h0 h1
    rw [List.range_succ, List.map_append, List.find?_append]
    by_cases e : k < n
    · rw [ih k e h0 h1]; rfl
    · have : k = n := by omega
      subst this
      rw [List.find?_eq_none.2]
      · simp [h1]
      · intro x hx
        obtain ⟨j, hj, rfl⟩ := List.mem_map.1 hx
        simp [h0 j (List.mem_range.1 hj)]

set_option maxRecDepth 4000 in
theorem firstE_at (l : List Pr) (k : Nat) (hk : k < l.length) (h0 : ∀ j, j < k → stepE l j = 0) (h : stepE l k ≠ 0) : firstE l = stepE l k := by
  unfold firstE
  rw [find_first (stepE l) (· != 0) l.length k hk (fun j hj => by simp [h0 j hj]) (by simpa using h)]
  rfl

def getF (l : List Pr) (k : ByteArray) : Option Pr := l.find? (fun p => p.1.toList == k.toList)
def getV (l : List Pr) (k : ByteArray) : ByteArray := ((getF l k).getD noPr).2
def getB (l : List Pr) (k : ByteArray) : Bool := (getF l k).isSome

end Go.Proofs.Ytdjajpookmmafaa

namespace Go.Proofs.Ytdjajpookmmafaa
open Go.RowKit
set_option maxRecDepth 4000 in
/-- What all bytes of a text meet, told place by place. -/
theorem all_take (p : UInt8 → Bool) (s : ByteArray) (h : ∀ j (hj : j < s.size), p s[j] = true) : s.data.toList.all p = true := by
  rw [List.all_eq_true]
  intro x hx
  obtain ⟨j, hj, rfl⟩ := List.mem_iff_getElem.1 hx
  exact h j (by simpa using hj)

set_option maxRecDepth 4000 in
theorem all_fails (p : UInt8 → Bool) (s : ByteArray) (j : Nat) (hj : j < s.size) (h : p s[j] = false) : s.data.toList.all p = false := by
  cases hh : s.data.toList.all p
  · rfl
  · rw [List.all_eq_true] at hh
    have hj' : j < s.data.toList.length := by simpa using hj
    have e : p s[j] = true := hh _ (List.getElem_mem hj')
    rw [h] at e
    cases e

set_option maxRecDepth 4000 in
theorem more (p : UInt8 → Bool) (s : ByteArray) (k : Nat) (hk : k < s.size) (h : Hid (∀ j (hj : j < s.size), j < k → p s[j] = true)) (hp : p s[k] = true) : Hid (∀ j (hj : j < s.size), j < k + 1 → p s[j] = true) := by
  intro j hj hl
  by_cases e : j = k
  · subst e; exact hp
  · exact h.out j hj (by omega)

set_option maxRecDepth 4000 in
theorem dec_no {p : Prop} [Decidable p] (h : ¬ p) : decide p = false := by simpa using h

set_option maxRecDepth 4000 in
theorem val_cases (c : UInt8) : isVal c = true ↔ ((97 ≤ (c.toNat : Int) ∧ (c.toNat : Int) ≤ 122) ∨ (48 ≤ (c.toNat : Int) ∧ (c.toNat : Int) ≤ 57) ∨ (c.toNat : Int) = 45) := by
  unfold isVal isLet isDig
  simp
  omega

set_option maxRecDepth 4000 in
theorem val_not {c : UInt8} (h : ¬ ((97 ≤ (c.toNat : Int) ∧ (c.toNat : Int) ≤ 122) ∨ (48 ≤ (c.toNat : Int) ∧ (c.toNat : Int) ≤ 57) ∨ (c.toNat : Int) = 45)) : isVal c = false := by
  cases hh : isVal c
  · rfl
  · exact absurd ((val_cases c).1 hh) h

end Go.Proofs.Ytdjajpookmmafaa

namespace Go.Proofs.Ytdjajpookmmafaa
open Go.RowKit

/-- The slice at A holds the properties l, below block B. -/
def PL (w : World) (B : Nat) (A : Option Addr) (l : List Pr) : Prop :=
  l ≠ [] → ∃ b o, A = some ⟨b, o, none⟩ ∧ b < B ∧ ∀ k, k < l.length → w.cell? ⟨b, o + k * 2, none⟩ = some (.string (prAt l k).1) ∧ w.cell? ⟨b, o + k * 2 + 1, none⟩ = some (.string (prAt l k).2)

set_option maxRecDepth 4000 in
theorem PL.keep {w w' : World} {B : Nat} {A : Option Addr} {l : List Pr} (h : PL w B A l) (hk : ∀ p : Addr, p.block < B → w'.cell? p = w.cell? p) : PL w' B A l := fun hn => by
  obtain ⟨b, o, e, hb, hc⟩ := h hn
  exact ⟨b, o, e, hb, fun k hkl => ⟨(hk _ hb).trans (hc k hkl).1, (hk _ hb).trans (hc k hkl).2⟩⟩
set_option maxRecDepth 4000 in
theorem PL.below {w w' : World} {B : Nat} {A : Option Addr} {l : List Pr} (h : PL w B A l) (hb : Below B w w') : PL w' B A l := h.keep fun _ hp => hb.cell hp
set_option maxRecDepth 4000 in
theorem PL.more {w : World} {B B' : Nat} {A : Option Addr} {l : List Pr} (h : PL w B A l) (hB : B ≤ B') : PL w B' A l := fun hn => by
  obtain ⟨b, o, e, hb, hc⟩ := h hn
  exact ⟨b, o, e, by omega, hc⟩
set_option maxRecDepth 4000 in
theorem PL.at_ {w : World} {B : Nat} {A : Option Addr} {l : List Pr} (h : PL w B A l) {k : Nat} (hk : k < l.length) : ∃ b o, A = some ⟨b, o, none⟩ ∧ b < B ∧ w.cell? ⟨b, o + k * 2, none⟩ = some (.string (prAt l k).1) ∧ w.cell? ⟨b, o + k * 2 + 1, none⟩ = some (.string (prAt l k).2) := by
  obtain ⟨b, o, e, hb, hc⟩ := h (by intro e; subst e; simp at hk)
  exact ⟨b, o, e, hb, (hc k hk).1, (hc k hk).2⟩
set_option maxRecDepth 4000 in
theorem PL.nil (w : World) (B : Nat) (A : Option Addr) : PL w B A [] := fun h => absurd rfl h

set_option maxRecDepth 4000 in
theorem prAt_eq (l : List Pr) (k : Nat) (hk : k < l.length) : prAt l k = l[k] := by
  unfold prAt; rw [List.getD_eq_getElem?_getD, List.getElem?_eq_getElem hk]; rfl

/-- The texts of a list are no longer than a length can be. -/
def Wide (l : List Pr) : Prop := l.length ≤ 9223372036854775807 ∧ ∀ p ∈ l, p.1.size ≤ 9223372036854775807 ∧ p.2.size ≤ 9223372036854775807
set_option maxRecDepth 4000 in
theorem Wide.at_ {l : List Pr} (h : Wide l) {k : Nat} (hk : k < l.length) : (prAt l k).1.size ≤ 9223372036854775807 ∧ (prAt l k).2.size ≤ 9223372036854775807 := by
  rw [prAt_eq l k hk]; exact h.2 _ (List.getElem_mem hk)

end Go.Proofs.Ytdjajpookmmafaa

namespace Go.Proofs.Ytdjajpookmmafaa
open Go.RowKit

theorem ret_get {a b : ByteArray} {p q : Bool} (h : a = b) (hp : p = q) : Ending.returned (.tuple #[.string a, .bool p]) = .returned (.tuple #[.string b, .bool q]) := by rw [h, hp]

set_option maxRecDepth 4000 in
theorem getF_hit (l : List Pr) (k : ByteArray) (n : Nat) (hn : n < l.length) (h0 : ∀ j, j < n → ((prAt l j).1.toList == k.toList) = false) (h : ((prAt l n).1.toList == k.toList) = true) : getF l k = some (prAt l n) := by
  unfold getF
  have e : l = (List.range l.length).map (prAt l) := by
    apply List.ext_getElem?
    intro i
    by_cases hi : i < l.length
    · simp [hi, prAt_eq l i hi]
    · simp [hi]
  have := find_first (prAt l) (fun p => p.1.toList == k.toList) l.length n hn h0 h
  rwa [← e] at this

set_option maxRecDepth 4000 in
theorem getF_miss (l : List Pr) (k : ByteArray) (h0 : ∀ j, j < l.length → ((prAt l j).1.toList == k.toList) = false) : getF l k = none := by
  unfold getF
  rw [List.find?_eq_none]
  intro p hp
  obtain ⟨j, hj, rfl⟩ := List.mem_iff_getElem.1 hp
  have := h0 j hj
  rw [prAt_eq l j hj] at this
  simpa using this

end Go.Proofs.Ytdjajpookmmafaa

namespace Go.Proofs.Ytdjajpookmmafaa
open Go.RowKit
end Go.Proofs.Ytdjajpookmmafaa

namespace Go.Proofs.Ytdjajpookmmafaa
open Go.RowKit

def samePr (x y : Pr) : Bool := x.1.toList == y.1.toList && x.2.toList == y.2.toList
set_option maxRecDepth 4000 in
theorem toList_inj {a b : ByteArray} (h : a.toList = b.toList) : a = b := by
  rw [ByteArray.toList_eq, ByteArray.toList_eq] at h
  exact ByteArray.ext (Array.toList_inj.1 h)
set_option maxRecDepth 4000 in
theorem samePr_iff (x y : Pr) : samePr x y = true ↔ x = y := by
  unfold samePr
  constructor
  · intro h
    simp only [Bool.and_eq_true, beq_iff_eq] at h
    exact Prod.ext (toList_inj h.1) (toList_inj h.2)
  · rintro rfl; simp

set_option maxRecDepth 4000 in
theorem struct36 : Try.prog.underlying 79 = some (.struct (Try.prog.fieldsOf 79)) := by kernel_rfl
set_option maxRecDepth 4000 in
theorem stood36 : Try.prog.stoodInHeld 79 = false := by kernel_rfl
set_option maxRecDepth 4000 in
theorem guard36 : Try.prog.eqGuardType Try.prog.depth 79 = false := by kernel_rfl
set_option maxRecDepth 4000 in
theorem equal36 (a b c d : ByteArray) (w : World) : (Op.equalIn 10000 79 (.agg #[.string a, .string b]) (.agg #[.string c, .string d])).run Try.prog w = .ok (a.toList == c.toList && b.toList == d.toList) w := by
  have u9 := Try.underlying9
  have a9 := Try.isAgg9
  have z9 := Try.sizeOf9
  rw [show (10000 : Nat) = 9999 + 1 from rfl, run_equalIn_agg w 9999 79 _ _ struct36 stood36]
  simp only [Program.fieldsOf, Try.underlying79]
  go_simp
  by_cases h1 : a.toList = c.toList <;> by_cases h2 : b.toList = d.toList <;> simp [h1, h2]
set_option maxRecDepth 4000 in
theorem neq36 (a b c d : ByteArray) (w : World) : (binOp .neq 79 (.agg #[.string a, .string b]) (.agg #[.string c, .string d])).run Try.prog w = .ok (.bool (!(a.toList == c.toList && b.toList == d.toList))) w := by
  rw [run_neq_struct, equal36]; rfl
set_option maxRecDepth 4000 in
theorem eql36 (a b c d : ByteArray) (w : World) : (binOp .eql 79 (.agg #[.string a, .string b]) (.agg #[.string c, .string d])).run Try.prog w = .ok (.bool (a.toList == c.toList && b.toList == d.toList)) w := by
  rw [run_eql_struct, equal36]; rfl

set_option maxRecDepth 4000 in
theorem same_of (l m : List Pr) (h : l.length = m.length) (h0 : ∀ j, j < l.length → samePr (prAt l j) (prAt m j) = true) : decide (l = m) = true := by
  rw [decide_eq_true_iff]
  apply List.ext_getElem h
  intro i h1 h2
  have := (samePr_iff _ _).1 (h0 i h1)
  rwa [prAt_eq l i h1, prAt_eq m i h2] at this
set_option maxRecDepth 4000 in
theorem same_not (l m : List Pr) (n : Nat) (_h1 : n < l.length) (h2 : n < m.length) (h : samePr (prAt l n) (prAt m n) = false) : decide (l = m) = false := by
  rw [decide_eq_false_iff_not]
  rintro rfl
  rw [(samePr_iff _ _).2 rfl] at h
  cases h

set_option maxRecDepth 4000 in
set_option maxHeartbeats 2000000 in
theorem pequal_any (A B : Option Addr) (l m : List Pr) (c d : Nat) (w : World) (hl : l.length ≤ 9223372036854775807) (hm : m.length ≤ 9223372036854775807) (hp : PL w w.heap.size A l) (hq : PL w w.heap.size B m) :
    Calls Try.prog 74 #[.slice A l.length c, .slice B m.length d] w fun e w' => e = .returned (.bool (decide (l = m))) ∧ Below w.heap.size w w' := by
  by_cases hlm : l.length = m.length
  · have hx : ((l.length : Int) != (m.length : Int)) = false := by simp; omega
    have HL := hd hlm
    clear hlm
    go_enter Try.func74, Try.ntmps74
    go_wp2
    go_loopw [13] (fun i wr => ∃ n : Nat, n ≤ l.length ∧ i = .int .i64 n ∧ Below w.heap.size w wr ∧ Hid (∀ j, j < n → samePr (prAt l j) (prAt m j) = true)) (fun i _ => l.length - (intOf i).toNat)
    case atStart => exact ⟨0, Nat.zero_le _, rfl, Below.refl _ _, fun j hj => absurd hj (Nat.not_lt_zero _)⟩
    case round =>
      obtain ⟨n, hn, rfl, hb, HA⟩ := hrel
      by_cases hlt : n < l.length
      · have hltm : n < m.length := by have := HL.out; omega
        obtain ⟨b1, o1, rfl, hl1, c1, c2⟩ := (hp.below hb).at_ hlt
        obtain ⟨b2, o2, rfl, hl2, d1, d2⟩ := (hq.below hb).at_ hltm
        have hne := fun W => neq36 (prAt l n).1 (prAt l n).2 (prAt m n).1 (prAt m n).2 W
        have hgd := fun (x y : Operand) (op : BinOp) (W : World) => run_eqGuard_agg (P := Try.prog) W op 79 x y #[.string (prAt l n).1, .string (prAt l n).2] #[.string (prAt m n).1, .string (prAt m n).2] guard36
        clear hp hq
        cases hs : ((prAt l n).1.toList == (prAt m n).1.toList && (prAt l n).2.toList == (prAt m n).2.toList)
        · have HF := hd (same_not l m n hlt hltm hs)
          clear HA
          simp only [hs] at hne
          clear hs
          go_wp2_with fail
          go_quiet (fail)
          go_wp2
          go_ret
          exact ⟨ret_bool HF.out.symm, below_drewN hb _⟩
        · have HB := one_more (p := fun j => samePr (prAt l j) (prAt m j) = true) HA hs
          clear HA
          simp only [hs] at hne
          clear hs
          go_wp2_with fail
          go_quiet (fail)
          go_wp2
          go_roundw
          case rel => exact ⟨n + 1, by omega, by go_num, below_drewN hb _, HB⟩
          case measure => simp [intOf]; omega
      · have HF := hd (same_of l m HL.out (fun j hj => HA.out j (by omega)))
        clear HA hp hq
        go_wp2
        go_ret
        exact ⟨ret_bool HF.out.symm, hb⟩
  · have hx : ((l.length : Int) != (m.length : Int)) = true := by simp; omega
    have HF := hd (show decide (l = m) = false by rw [decide_eq_false_iff_not]; rintro rfl; exact hlm rfl)
    clear hlm
    go_enter Try.func74, Try.ntmps74
    go_wp2
    go_ret
    exact ⟨ret_bool HF.out.symm, Below.refl _ _⟩

set_option maxRecDepth 4000 in
set_option maxHeartbeats 2000000 in
theorem prsame_any (A B : Option Addr) (l m : List Pr) (c d : Nat) (w : World) (hl : l.length ≤ 9223372036854775807) (hm : m.length ≤ 9223372036854775807) (hp : PL w w.heap.size A l) (hq : PL w w.heap.size B m) :
    Calls Try.prog 32 #[.slice A l.length c, .slice B m.length d] w fun e w' => e = .returned (.bool (decide (l = m))) ∧ Below w.heap.size w w' := by
  by_cases hlm : l.length = m.length
  · have hx : ((l.length : Int) != (m.length : Int)) = false := by simp; omega
    have HL := hd hlm
    clear hlm
    go_enter Try.func32, Try.ntmps32
    go_wp2
    go_loopw [13] (fun i wr => ∃ n : Nat, n ≤ l.length ∧ i = .int .i64 n ∧ Below w.heap.size w wr ∧ Hid (∀ j, j < n → samePr (prAt l j) (prAt m j) = true)) (fun i _ => l.length - (intOf i).toNat)
    case atStart => exact ⟨0, Nat.zero_le _, rfl, Below.refl _ _, fun j hj => absurd hj (Nat.not_lt_zero _)⟩
    case round =>
      obtain ⟨n, hn, rfl, hb, HA⟩ := hrel
      by_cases hlt : n < l.length
      · have hltm : n < m.length := by have := HL.out; omega
        obtain ⟨b1, o1, rfl, hl1, c1, c2⟩ := (hp.below hb).at_ hlt
        obtain ⟨b2, o2, rfl, hl2, d1, d2⟩ := (hq.below hb).at_ hltm
        have hne := fun W => neq36 (prAt l n).1 (prAt l n).2 (prAt m n).1 (prAt m n).2 W
        have hgd := fun (x y : Operand) (op : BinOp) (W : World) => run_eqGuard_agg (P := Try.prog) W op 79 x y #[.string (prAt l n).1, .string (prAt l n).2] #[.string (prAt m n).1, .string (prAt m n).2] guard36
        clear hp hq
        cases hs : ((prAt l n).1.toList == (prAt m n).1.toList && (prAt l n).2.toList == (prAt m n).2.toList)
        · have HF := hd (same_not l m n hlt hltm hs)
          clear HA
          simp only [hs] at hne
          clear hs
          go_wp2_with fail
          go_quiet (fail)
          go_wp2
          go_ret
          exact ⟨ret_bool HF.out.symm, below_drewN hb _⟩
        · have HB := one_more (p := fun j => samePr (prAt l j) (prAt m j) = true) HA hs
          clear HA
          simp only [hs] at hne
          clear hs
          go_wp2_with fail
          go_quiet (fail)
          go_wp2
          go_roundw
          case rel => exact ⟨n + 1, by omega, by go_num, below_drewN hb _, HB⟩
          case measure => simp [intOf]; omega
      · have HF := hd (same_of l m HL.out (fun j hj => HA.out j (by omega)))
        clear HA hp hq
        go_wp2
        go_ret
        exact ⟨ret_bool HF.out.symm, hb⟩
  · have hx : ((l.length : Int) != (m.length : Int)) = true := by simp; omega
    have HF := hd (show decide (l = m) = false by rw [decide_eq_false_iff_not]; rintro rfl; exact hlm rfl)
    clear hlm
    go_enter Try.func32, Try.ntmps32
    go_wp2
    go_ret
    exact ⟨ret_bool HF.out.symm, Below.refl _ _⟩

set_option maxRecDepth 4000 in
set_option maxHeartbeats 1000000 in
theorem psame_any (A B : Option Addr) (l m : List Pr) (c d : Nat) (w : World) (hl : l.length ≤ 9223372036854775807) (hm : m.length ≤ 9223372036854775807) (hp : PL w w.heap.size A l) (hq : PL w w.heap.size B m) :
    Calls Try.prog 69 #[.slice A l.length c, .slice B m.length d] w fun e w' => e = .returned (.bool (decide (l = m))) ∧ Below w.heap.size w w' := by
  have hC := hd (pequal_any A B l m c d w hl hm hp hq)
  clear hp hq
  go_enter Try.func69, Try.ntmps69
  go_wp2_with (go_at_call 74; refine hC.out.mono ?_; rintro e w' ⟨rfl, hb⟩)
  go_ret
  exact ⟨rfl, hb⟩

end Go.Proofs.Ytdjajpookmmafaa
