/-
  The contracts of the two length functions: how many base-32 signs a number of bytes has. Conditions: the number is at most a thousand million.
-/
import Derived.Test.YtokbakpbhpknfaaRows
import Derived.Test.YtokbakpbhpknfaaMathN
import Derived.WalkKit
import Derived.WalkSpells
import Derived.WalkLawsBesides
import Derived.Lib.Hide
import Derived.ProofKit
import Derived.OpenShut
import Derived.Laws.AppendOwnNone
namespace Go.Proofs.Ytokbakpbhpknfaa.Nam
open Go.RowKit

theorem ret_i64 {a b : Int} (h : a = b) : Ending.returned (.int .i64 a) = .returned (.int .i64 b) := by rw [h]

set_option maxHeartbeats 400000 in
theorem len_any (n : Int) (w : World) (h0 : 0 < n) (h1 : n ≤ 1000000000) :
    Calls Try.prog 52 #[.int .i64 n] w fun e w' => e = .returned (.int .i64 (slen n.toNat)) ∧ w = w' := by
  have h2 : ¬ n ≤ 0 := by omega
  go_enter Try.func52, Try.ntmps52
  go_wp2
  go_ret
  exact ⟨ret_i64 (by unfold slen; omega), rfl⟩

set_option maxHeartbeats 400000 in
theorem len_none (n : Int) (w : World) (h0 : n ≤ 0) :
    Calls Try.prog 52 #[.int .i64 n] w fun e w' => e = .returned (.int .i64 0) ∧ w = w' := by
  go_enter Try.func52, Try.ntmps52
  go_wp2
  go_ret
  exact ⟨rfl, rfl⟩

set_option maxHeartbeats 400000 in
theorem rlen_none (n : Int) (w : World) (h0 : n ≤ 0) :
    Calls Try.prog 62 #[.int .i64 n] w fun e w' => e = .returned (.int .i64 0) ∧ w = w' := by
  have h1 : ¬ 0 < n := by omega
  go_enter Try.func62, Try.ntmps62
  go_wp2
  refine wp_loop_rounds 1 ?_
  rw [rounds_succ]
  go_wp2
  go_ret
  exact ⟨rfl, rfl⟩

set_option maxHeartbeats 400000 in
theorem rlen_any (n : Int) (w : World) (h0 : 0 < n) (h1 : n ≤ 1000000000) :
    Calls Try.prog 62 #[.int .i64 n] w fun e w' => e = .returned (.int .i64 (slen n.toNat)) ∧ w = w' := by
  have hb : (slen n.toNat : Int) ≤ 2000000000 := by unfold slen; omega
  go_enter Try.func62, Try.ntmps62
  go_wp2
  go_loop [3] (fun t => ∃ k : Nat, (k : Int) ≤ slen n.toNat ∧ t = .int .i64 k) (fun t => slen n.toNat - (intOf t).toNat)
  case atStart => exact ⟨0, by omega, rfl⟩
  case round =>
    obtain ⟨k, hk, rfl⟩ := hrel
    by_cases hlt : (k : Int) * 5 < n * 8
    · go_wp2
      go_round
      case rel => exact ⟨k + 1, by unfold slen at *; omega, by go_num⟩
      case measure => simp [intOf]; unfold slen at *; omega
    · go_wp2
      go_ret
      exact ⟨ret_i64 (by unfold slen at *; omega), rfl⟩

end Go.Proofs.Ytokbakpbhpknfaa.Nam

namespace Go.Proofs.Ytokbakpbhpknfaa.Nam
open Go.RowKit

theorem ret_u8 {a b : Int} (h : a = b) : Ending.returned (.int .u8 a) = .returned (.int .u8 b) := by rw [h]

/-- The cells from b, off on hold these bytes. -/
def By (w : World) (b off : Nat) (l : List UInt8) : Prop := ∀ i, i < l.length → w.cell? ⟨b, off + i, none⟩ = some (.int .u8 ((l.getD i 0).toNat : Int))

theorem cast_digit (n r : Nat) : (((n / 2 ^ r % 32 : Nat)) : Int) = (n : Int) / 2 ^ r % 32 := by
  simp [Int.natCast_ediv, Int.natCast_emod, Int.natCast_pow]

end Go.Proofs.Ytokbakpbhpknfaa.Nam

namespace Go.Proofs.Ytokbakpbhpknfaa.Nam
open Go.RowKit

theorem add_at (g j : Nat) : (⟨g, 0, none⟩ : Addr).add j = ⟨g, j, none⟩ := by
  cases j <;> simp [Addr.add]
theorem info_u8 : (Try.prog.info? 5).map (fun i => (i.zero, i.size, i.bytes)) = some (some (.int .u8 0), 1, 1) := by kernel_rfl

/-- A slice of integers that came in: it is nil; or it leads to a row of 'cap' cells. -/
def IsRow (k : IntKind) (w : World) (a : Option Addr) (len cap : Nat) (zs : List Int) : Prop :=
  (a = none ∧ len = 0 ∧ cap = 0 ∧ zs = []) ∨
  ∃ x, a = some x ∧ len ≤ cap ∧ cap ≤ maxLen ∧ zs.length = cap ∧ (∀ i, i < zs.length → w.cell? (x.add i) = some (.int k (zs.getD i 0))) ∧ ∀ n ∈ zs, (Lit.int k n).wf = true

/-- A slice of bytes that came in, as the list of its bytes: where there is one, they lie in old cells. -/
structure IsB (w : World) (a : Option Addr) (len cap : Nat) (l : List UInt8) : Prop where
  length : l.length = len
  at_ : len = 0 ∨ ∃ b off, a = some ⟨b, off, none⟩ ∧ b < w.heap.size ∧ By w b off l
  most : len ≤ maxLen
  nil : a = none → len = 0 ∧ cap = 0
  room : len ≤ cap ∧ cap ≤ maxLen

theorem bytes_of {w : World} {a : Option Addr} {len cap : Nat} {zs : List Int} (h : IsRow .u8 w a len cap zs) : ∃ l, IsB w a len cap l := by
  rcases h with ⟨rfl, rfl, rfl, rfl⟩ | ⟨x, rfl, hl, hm, hz, hcell, hwz⟩
  · exact ⟨[], rfl, .inl rfl, by unfold maxLen; omega, fun _ => ⟨rfl, rfl⟩, by omega, by unfold maxLen; omega⟩
  · refine ⟨(zs.take len).map fun z => UInt8.ofNat z.toNat, by simp; omega, ?_, by omega, (fun h => by cases h), hl, hm⟩
    rcases Nat.eq_zero_or_pos len with h0 | h0
    · exact .inl h0
    · right
      obtain ⟨b, off, spot⟩ := x
      have hc := hcell 0 (by omega)
      have hspot : spot = none := by simpa [Addr.add] using World.cell?_spot hc
      subst hspot
      have hb := World.block_lt_of_cell? w _ hc
      refine ⟨b, off, rfl, by simpa [Addr.add] using hb, ?_⟩
      intro i hi
      have hi' : i < len := by simp at hi; omega
      have hc := hcell i (by omega)
      have hr := range_u8 hwz i
      have hadd : (⟨b, off, none⟩ : Addr).add i = ⟨b, off + i, none⟩ := by cases i <;> simp [Addr.add]
      rw [hadd] at hc
      rw [hc]
      have e1 : ((zs.take len).map fun z => UInt8.ofNat z.toNat).getD i 0 = UInt8.ofNat (zs[i]?.getD 0).toNat := by
        simp [List.getD, hi', List.getElem?_eq_getElem (show i < zs.length by omega)]
      rw [e1, List.getD_eq_getElem?_getD]
      generalize zs[i]?.getD 0 = z at hr
      have e2 : (UInt8.ofNat z.toNat).toNat = z.toNat := by
        rw [UInt8.toNat_ofNat']; omega
      rw [e2]
      congr 2
      omega

end Go.Proofs.Ytokbakpbhpknfaa.Nam

namespace Go.Proofs.Ytokbakpbhpknfaa.Nam
open Go.RowKit

theorem IsB.later {w w' : World} {a : Option Addr} {len cap : Nat} {l : List UInt8} (h : IsB w a len cap l) (hb : Below w.heap.size w w') : IsB w' a len cap l := by
  refine ⟨h.length, ?_, h.most, h.nil, h.room⟩
  rcases h.at_ with h0 | ⟨b, off, rfl, hlt, hby⟩
  · exact .inl h0
  · exact .inr ⟨b, off, rfl, Nat.lt_of_lt_of_le hlt hb.size, fun i hi => (hb.cell (by exact hlt)).trans (hby i hi)⟩

/-- What a row that the call itself made reads as. -/
theorem isB_of_owns {w : World} {base n : Nat} {v : Value} {l : List UInt8} (h : w.ownsRow base 5 1 v n (l.map bv)) :
    ∃ a cap, v = .slice a n cap ∧ IsB w a n cap l ∧ ∀ x, a = some x → base ≤ x.block := by
  have hl : l.length = n := by simpa using h.1
  rcases h.2 with ⟨rfl, rfl⟩ | ⟨g, cap, cur, rfl, hb, hg, hnc, hcm, hcs, htake⟩
  · exact ⟨none, 0, rfl, ⟨hl, .inl rfl, by unfold maxLen; omega, fun _ => ⟨rfl, rfl⟩, by omega, by unfold maxLen; omega⟩, fun x hx => by cases hx⟩
  · refine ⟨some ⟨g, 0, none⟩, cap, rfl, ⟨hl, .inr ⟨g, 0, rfl, ?_, ?_⟩, by omega, (fun hx => by cases hx), hnc, hcm⟩, fun x hx => by cases hx; exact hb⟩
    · rcases Nat.lt_or_ge g w.heap.size with hlt | hge
      · exact hlt
      · rw [Array.getElem?_eq_none hge] at hg; cases hg
    · intro i hi
      have h2 : w.ownsRow base 5 1 (.slice (some ⟨g, 0, none⟩) n cap) n (l.map bv) := h
      rw [Nat.zero_add, h2.cellAt i (by omega)]
      simp [hi, bv, List.getD]

/-- 'append' of bytes that came in, nil and empty ones too, onto nil or onto a row of the call's own. -/
theorem wpList_append_bytes {P : Program} {w : World} {ops : Array Oper} {rest : List Oper} {o : Oper} {a : Act} {Q : Exit → Act → World → Prop} (hgd : o.guard = none) (s x : Operand) (t : TypeId)
    (ho : o.op = .call { callee := .builtin .append, args := #[s, x], argTypes := #[t, t] })
    (base : Nat) (e : TypeId) (i : TypeInfo) (ht : P.underlying t = some (.slice e)) (hi : P.info? e = some i) (hz : i.zero = some (.int .u8 0))
    (hsize : i.size = 1) (hby : i.bytes = 1)
    (v : Value) (n : Nat) (l : List UInt8) (hs : a.eval s = v) (hown : w.ownsRow base e 1 v n (l.map bv))
    (ao : Option Addr) (m c : Nat) (k : List UInt8) (hx : a.eval x = .slice ao m c) (hsrc : IsB w ao m c k)
    (hbytes : n + m ≤ 140737488355328) (hbase : base ≤ w.heap.size)
    (h : ∀ v' w', w'.ownsRow base e 1 v' (n + m) ((l ++ k).map bv) → w.grownBy w' v.ownBlock → wpList P ops Q rest (a.put o.dst v') w') : wpList P ops Q (o :: rest) a w := by
  obtain ⟨h1, h2, h3, h4, _⟩ := hsrc
  cases ao with
  | none =>
    obtain ⟨rfl, rfl⟩ := h4 rfl
    obtain rfl : k = [] := List.eq_nil_of_length_eq_zero h1
    refine wpList_append_own_none hgd s x t ho base e i 1 ht hi v n (l.map bv) hs hown hx ?_
    exact h v w (by simpa using hown) (World.grownBy.refl w _)
  | some ad =>
    refine wpList_append_own w hgd s x t ho base e i _ 1 1 ht hi hz hsize hby rfl (by omega) v n (l.map bv) hs hown ad m c (k.map bv) hx (by simp [h1]) ?_ ?_ (by unfold maxLen; omega) (by omega) hbase ?_
    · intro j u hj
      rcases h2 with h0 | ⟨b, off, he, hlt, hby'⟩
      · subst h0
        obtain rfl : k = [] := List.eq_nil_of_length_eq_zero h1
        simp at hj
      · cases he
        rw [List.getElem?_map] at hj
        rcases Nat.lt_or_ge j k.length with hlt' | hge
        · rw [List.getElem?_eq_getElem hlt'] at hj
          have hb := hby' j hlt'
          have hadd : (⟨b, off, none⟩ : Addr).add j = ⟨b, off + j, none⟩ := by cases j <;> simp [Addr.add]
          rw [hadd, hb]
          simp [bv] at hj
          rw [← hj]
          simp [List.getD, hlt']
        · rw [List.getElem?_eq_none hge] at hj; cases hj
    · intro u hu
      obtain ⟨b, _, rfl⟩ := List.mem_map.1 hu
      rfl
    · intro v' w' h5 h6 _
      exact h v' w' (by rw [List.map_append]; exact h5) h6

end Go.Proofs.Ytokbakpbhpknfaa.Nam
