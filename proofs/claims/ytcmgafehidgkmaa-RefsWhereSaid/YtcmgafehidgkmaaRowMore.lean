/-
  The contract of Encode for a slice that came in, nil and empty ones too. Conditions: the bounds on lengths that each names.
-/
import Derived.Test.YtcmgafehidgkmaaRow
import Derived.Laws.AppendOwnNone
namespace Go.Proofs.Ytcmgafehidgkmaa.Nam
open Go.RowKit

theorem IsB.later {w w' : World} {a : Option Addr} {len cap : Nat} {l : List UInt8} (h : IsB w a len cap l) (hb : Below w.heap.size w w') : IsB w' a len cap l := by
  refine ⟨h.length, ?_, h.most, h.nil, h.room⟩
  rcases h.at_ with h0 | ⟨b, off, rfl, hlt, hby⟩
  · exact .inl h0
  · exact .inr ⟨b, off, rfl, Nat.lt_of_lt_of_le hlt hb.size, fun i hi => (hb.cell (by exact hlt)).trans (hby i hi)⟩

/-- What a row that the call itself made reads as. -/
theorem isB_of_owns {w : World} {base n : Nat} {v : Value} {l : List UInt8} (h : w.ownsRow base 5 1 v n (l.map bv)) :
    ∃ a cap, v = .slice a n cap ∧ IsB w a n cap l ∧ ∀ x, a = some x → base ≤ x.block := by
  have hl : l.length = n := by simpa using h.1
  rcases h.2 with ⟨rfl, rfl⟩ | ⟨g, cap, cur, rfl, hb, hg, hnc, hcm, hcs, htake⟩
  · exact ⟨none, 0, rfl, ⟨hl, .inl rfl, by unfold maxLen; omega, fun _ => ⟨rfl, rfl⟩, by omega, by unfold maxLen; omega⟩, fun x hx => by cases hx⟩
  · refine ⟨some ⟨g, 0, none⟩, cap, rfl, ⟨hl, .inr ⟨g, 0, rfl, ?_, ?_⟩, by omega, (fun hx => by cases hx), hnc, hcm⟩, fun x hx => by cases hx; exact hb⟩
    · rcases Nat.lt_or_ge g w.heap.size with hlt | hge
      · exact hlt
      · rw [Array.getElem?_eq_none hge] at hg; cases hg
    · intro i hi
      have h2 : w.ownsRow base 5 1 (.slice (some ⟨g, 0, none⟩) n cap) n (l.map bv) := h
      rw [Nat.zero_add, h2.cellAt i (by omega)]
      simp [hi, bv, List.getD]

/-- 'append' of bytes that came in, nil and empty ones too, onto nil or onto a row of the call's own. -/
theorem wpList_append_bytes {P : Program} {w : World} {ops : Array Oper} {rest : List Oper} {o : Oper} {a : Act} {Q : Exit → Act → World → Prop} (hgd : o.guard = none) (s x : Operand) (t : TypeId)
    (ho : o.op = .call { callee := .builtin .append, args := #[s, x], argTypes := #[t, t] })
    (base : Nat) (e : TypeId) (i : TypeInfo) (ht : P.underlying t = some (.slice e)) (hi : P.info? e = some i) (hz : i.zero = some (.int .u8 0))
    (hsize : i.size = 1) (hby : i.bytes = 1)
    (v : Value) (n : Nat) (l : List UInt8) (hs : a.eval s = v) (hown : w.ownsRow base e 1 v n (l.map bv))
    (ao : Option Addr) (m c : Nat) (k : List UInt8) (hx : a.eval x = .slice ao m c) (hsrc : IsB w ao m c k)
    (hbytes : n + m ≤ 140737488355328) (hbase : base ≤ w.heap.size)
    (h : ∀ v' w', w'.ownsRow base e 1 v' (n + m) ((l ++ k).map bv) → w.grownBy w' v.ownBlock → wpList P ops Q rest (a.put o.dst v') w') : wpList P ops Q (o :: rest) a w := by
  obtain ⟨h1, h2, h3, h4, _⟩ := hsrc
  cases ao with
  | none =>
    obtain ⟨rfl, rfl⟩ := h4 rfl
    obtain rfl : k = [] := List.eq_nil_of_length_eq_zero h1
    refine wpList_append_own_none hgd s x t ho base e i 1 ht hi v n (l.map bv) hs hown hx ?_
    exact h v w (by simpa using hown) (World.grownBy.refl w _)
  | some ad =>
    refine wpList_append_own w hgd s x t ho base e i _ 1 1 ht hi hz hsize hby rfl (by omega) v n (l.map bv) hs hown ad m c (k.map bv) hx (by simp [h1]) ?_ ?_ (by unfold maxLen; omega) (by omega) hbase ?_
    · intro j u hj
      rcases h2 with h0 | ⟨b, off, he, hlt, hby'⟩
      · subst h0
        obtain rfl : k = [] := List.eq_nil_of_length_eq_zero h1
        simp at hj
      · cases he
        rw [List.getElem?_map] at hj
        rcases Nat.lt_or_ge j k.length with hlt' | hge
        · rw [List.getElem?_eq_getElem hlt'] at hj
          have hb := hby' j hlt'
          have hadd : (⟨b, off, none⟩ : Addr).add j = ⟨b, off + j, none⟩ := by cases j <;> simp [Addr.add]
          rw [hadd, hb]
          simp [bv] at hj
          rw [← hj]
          simp [List.getD, hlt']
        · rw [List.getElem?_eq_none hge] at hj; cases hj
    · intro u hu
      obtain ⟨b, _, rfl⟩ := List.mem_map.1 hu
      rfl
    · intro v' w' h5 h6 _
      exact h v' w' (by rw [List.map_append]; exact h5) h6

end Go.Proofs.Ytcmgafehidgkmaa.Nam
