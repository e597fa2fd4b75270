/-
  Trees as data, and what of the memory reads as one. No program text.
-/
import Derived.Test.YtbempgdndmchlaaDoorTNames
import Derived.Test.YtbempgdndmchlaaDoorBut
namespace Go.Proofs.YtbempgdndmchlaaDoor
open Go.RowKit
set_option linter.unusedVariables false

/-- A tree: its kind, whether it may be executed, its bytes, its names, what is in it. -/
inductive T where
  | mk (kind : UInt8) (exec : Bool) (data : List UInt8) (names : List ByteArray) (kids : List T)

instance : Inhabited T := ⟨.mk 0 false [] [] []⟩

/-- A slice of bytes as the list of its bytes. -/
structure IsB (w : World) (a : Option Addr) (len cap : Nat) (l : List UInt8) : Prop where
  length : l.length = len
  at_ : len = 0 ∨ ∃ b off, a = some ⟨b, off, none⟩ ∧ b < w.heap.size ∧ ∀ i, i < len → w.cell? ⟨b, off + i, none⟩ = some (.int .u8 ((l.getD i 0).toNat : Int))
  nil : a = none → len = 0 ∧ cap = 0
  room : len ≤ cap ∧ cap ≤ maxLen
  most : len ≤ 140737488355328

/-- A slice of texts as the list of its texts. -/
structure IsS (w : World) (a : Option Addr) (len cap : Nat) (l : List ByteArray) : Prop where
  length : l.length = len
  at_ : len = 0 ∨ ∃ b off, a = some ⟨b, off, none⟩ ∧ b < w.heap.size ∧ ∀ i, i < len → w.cell? ⟨b, off + i, none⟩ = some (.string (l.getD i ⟨#[]⟩))
  nil : a = none → len = 0 ∧ cap = 0
  room : len ≤ cap ∧ cap ≤ maxLen

theorem IsB.later {w w' : World} {a : Option Addr} {len cap : Nat} {l : List UInt8} (h : IsB w a len cap l) (hb : Below w.heap.size w w') : IsB w' a len cap l := by
  refine ⟨h.length, ?_, h.nil, h.room, h.most⟩
  rcases h.at_ with h0 | ⟨b, off, rfl, hlt, hc⟩
  · exact .inl h0
  · exact .inr ⟨b, off, rfl, Nat.lt_of_lt_of_le hlt hb.size, fun i hi => (hb.cell (p := ⟨b, off + i, none⟩) hlt).trans (hc i hi)⟩

theorem IsS.later {w w' : World} {a : Option Addr} {len cap : Nat} {l : List ByteArray} (h : IsS w a len cap l) (hb : Below w.heap.size w w') : IsS w' a len cap l := by
  refine ⟨h.length, ?_, h.nil, h.room⟩
  rcases h.at_ with h0 | ⟨b, off, rfl, hlt, hc⟩
  · exact .inl h0
  · exact .inr ⟨b, off, rfl, Nat.lt_of_lt_of_le hlt hb.size, fun i hi => (hb.cell (p := ⟨b, off + i, none⟩) hlt).trans (hc i hi)⟩

/-- A slice of trees, each read by R. -/
structure IsK (R : List Value → T → Prop) (w : World) (a : Option Addr) (len cap : Nat) (l : List T) : Prop where
  length : l.length = len
  at_ : len = 0 ∨ ∃ b off, a = some ⟨b, off, none⟩ ∧ b < w.heap.size ∧ ∀ i, i < len → ∃ c0 c1 c2 c3 c4, R [c0, c1, c2, c3, c4] (l.getD i default) ∧
    w.cell? ⟨b, off + i * 5, none⟩ = some c0 ∧ w.cell? ⟨b, off + (i * 5 + 1), none⟩ = some c1 ∧ w.cell? ⟨b, off + (i * 5 + 2), none⟩ = some c2 ∧ w.cell? ⟨b, off + (i * 5 + 3), none⟩ = some c3 ∧ w.cell? ⟨b, off + (i * 5 + 4), none⟩ = some c4
  nil : a = none → len = 0 ∧ cap = 0
  room : len ≤ cap ∧ cap ≤ maxLen

/-- Five cells that read as a tree, of at most so many levels. -/
def IsT (w : World) : Nat → List Value → T → Prop
  | 0, _, _ => False
  | n + 1, cs, .mk k x d ns ks => ∃ ad nd cd an nn cn ak nk ck, cs = [.int .u8 (k.toNat : Int), .bool x, .slice ad nd cd, .slice an nn cn, .slice ak nk ck] ∧
      IsB w ad nd cd d ∧ IsS w an nn cn ns ∧ IsK (IsT w n) w ak nk ck ks

theorem IsK.mono {R R' : List Value → T → Prop} {w w' : World} {a : Option Addr} {len cap : Nat} {l : List T} (h : IsK R w a len cap l) (hb : Below w.heap.size w w') (hR : ∀ cs t, R cs t → R' cs t) : IsK R' w' a len cap l := by
  refine ⟨h.length, ?_, h.nil, h.room⟩
  rcases h.at_ with h0 | ⟨b, off, rfl, hlt, hc⟩
  · exact .inl h0
  · refine .inr ⟨b, off, rfl, Nat.lt_of_lt_of_le hlt hb.size, fun i hi => ?_⟩
    obtain ⟨c0, c1, c2, c3, c4, hr, h0, h1, h2, h3, h4⟩ := hc i hi
    exact ⟨c0, c1, c2, c3, c4, hR _ _ hr, (hb.cell (p := ⟨b, _, none⟩) hlt).trans h0, (hb.cell (p := ⟨b, _, none⟩) hlt).trans h1, (hb.cell (p := ⟨b, _, none⟩) hlt).trans h2, (hb.cell (p := ⟨b, _, none⟩) hlt).trans h3, (hb.cell (p := ⟨b, _, none⟩) hlt).trans h4⟩

theorem IsT.later {w w' : World} (hb : Below w.heap.size w w') : ∀ (n : Nat) (cs : List Value) (t : T), IsT w n cs t → IsT w' n cs t
  | 0, _, _, h => h
  | n + 1, cs, .mk k x d ns ks, h => by
    obtain ⟨ad, nd, cd, an, nn, cn, ak, nk, ck, hcs, hB, hS, hK⟩ := h
    exact ⟨ad, nd, cd, an, nn, cn, ak, nk, ck, hcs, hB.later hb, hS.later hb, hK.mono hb (fun cs t => IsT.later hb n cs t)⟩

/-! Which trees are right, and how great they are. -/

/-- Is the one text at most the other? -/
def leS (s p : ByteArray) : Bool := Op.bytesLess s.toList p.toList || s.toList == p.toList

/-- Do the names rise, and are they names? -/
def risingT (l : List ByteArray) : Bool := (List.range l.length).all fun i => tName (l.getD i ⟨#[]⟩).data.toList && (i == 0 || !leS (l.getD i ⟨#[]⟩) (l.getD (i - 1) ⟨#[]⟩))

theorem risingT_good {l : List ByteArray} (h : ∀ i, i < l.length → tName (l.getD i ⟨#[]⟩).data.toList = true ∧ (1 ≤ i → leS (l.getD i ⟨#[]⟩) (l.getD (i - 1) ⟨#[]⟩) = false)) : risingT l = true := by
  unfold risingT
  rw [List.all_eq_true]
  intro i hi
  obtain ⟨h1, h2⟩ := h i (List.mem_range.1 hi)
  rw [h1]
  rcases Nat.eq_zero_or_pos i with rfl | h0
  · rfl
  · rw [h2 h0]; simp

theorem risingT_name {l : List ByteArray} {i : Nat} (hi : i < l.length) (h : tName (l.getD i ⟨#[]⟩).data.toList = false) : risingT l = false := by
  unfold risingT
  rw [List.all_eq_false]
  exact ⟨i, List.mem_range.2 hi, by rw [h]; simp⟩

theorem risingT_less {l : List ByteArray} {i : Nat} (hi : i < l.length) (h0 : 1 ≤ i) (h : leS (l.getD i ⟨#[]⟩) (l.getD (i - 1) ⟨#[]⟩) = true) : risingT l = false := by
  unfold risingT
  rw [List.all_eq_false]
  refine ⟨i, List.mem_range.2 hi, ?_⟩
  rw [h]
  have : (i == 0) = false := by rw [beq_eq_false_iff_ne]; omega
  rw [this]; simp

def formedT : T → Bool
  | .mk k x d ns ks =>
    if k = 3 then !x && d.isEmpty && decide (ns.length = ks.length) && risingT ns
    else ns.isEmpty && ks.isEmpty && (k == 1 || (k == 2 && !x && decide (1 ≤ d.length) && decide (d.length ≤ 400) && !(d.contains 0)))

mutual
/-- Counting on: how many trees and bytes there are behind it; none: it isn't right. -/
def takeT : T → Nat → Nat → Nat → Option (Nat × Nat)
  | .mk k x d ns ks, dep, t, b =>
    if dep ≤ 16 ∧ t + 1 ≤ 4096 ∧ b + d.length ≤ 65536 ∧ formedT (.mk k x d ns ks) = true then takeL ks (dep + 1) (t + 1) (b + d.length) else none
def takeL : List T → Nat → Nat → Nat → Option (Nat × Nat)
  | [], _, t, b => some (t, b)
  | k :: r, dep, t, b => match takeT k dep t b with
    | none => none
    | some (t', b') => takeL r dep t' b'
end

def sizeT (t : T) : Option (Nat × Nat) := takeT t 0 0 0

theorem takeT_mk (k : UInt8) (x : Bool) (d : List UInt8) (ns : List ByteArray) (ks : List T) (dep t b : Nat) : takeT (.mk k x d ns ks) dep t b =
    if dep ≤ 16 ∧ t + 1 ≤ 4096 ∧ b + d.length ≤ 65536 ∧ formedT (.mk k x d ns ks) = true then takeL ks (dep + 1) (t + 1) (b + d.length) else none := by rw [takeT]

theorem takeL_append : ∀ (p q : List T) (dep t b : Nat), takeL (p ++ q) dep t b = (takeL p dep t b).bind fun r => takeL q dep r.1 r.2
  | [], q, dep, t, b => by simp [takeL]
  | k :: p, q, dep, t, b => by
    rw [List.cons_append, takeL, takeL]
    cases takeT k dep t b with
    | none => rfl
    | some r => exact takeL_append p q dep r.1 r.2

theorem takeL_one (k : T) (dep t b : Nat) : takeL [k] dep t b = takeT k dep t b := by
  rw [takeL]
  cases takeT k dep t b with
  | none => rfl
  | some r => simp [takeL]

mutual
theorem takeT_le : ∀ (t : T) (dep n b : Nat) (r : Nat × Nat), takeT t dep n b = some r → r.1 ≤ 4096 ∧ r.2 ≤ 65536
  | .mk k x d ns ks, dep, n, b, r, h => by
    rw [takeT_mk] at h
    split at h
    · rename_i hc
      exact takeL_le ks _ _ _ r hc.2.1 hc.2.2.1 h
    · cases h
theorem takeL_le : ∀ (l : List T) (dep n b : Nat) (r : Nat × Nat), n ≤ 4096 → b ≤ 65536 → takeL l dep n b = some r → r.1 ≤ 4096 ∧ r.2 ≤ 65536
  | [], dep, n, b, r, hn, hb, h => by
    rw [takeL] at h
    cases h
    exact ⟨hn, hb⟩
  | k :: l, dep, n, b, r, hn, hb, h => by
    rw [takeL] at h
    cases hk : takeT k dep n b with
    | none => rw [hk] at h; cases h
    | some q =>
      rw [hk] at h
      have := takeT_le k dep n b q hk
      exact takeL_le l dep q.1 q.2 r this.1 this.2 h
end

end Go.Proofs.YtbempgdndmchlaaDoor
