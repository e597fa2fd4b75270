/-
  Bytes and texts put behind a row of the call's own: the two laws. No program text but the types' numbers.
-/
import Derived.Test.YtcmgafehidgkmaaRfBytesWalk
namespace Go.Proofs.Ytcmgafehidgkmaa
open Go.RowKit
set_option linter.unusedVariables false

theorem toNam {w : World} {a : Option Addr} {n c : Nat} {l : List UInt8} (h : IsB w a n c l) : Nam.IsB w a n c l :=
  ⟨h.length, h.at_.imp id (fun ⟨b, off, h1, h2, h3⟩ => ⟨b, off, h1, h2, fun i hi => h3 i (by rw [← h.length]; exact hi)⟩), by have := h.most; unfold maxLen; omega, h.nil, h.room⟩
theorem ofNam {w : World} {a : Option Addr} {n c : Nat} {l : List UInt8} (h : Nam.IsB w a n c l) (hn : n ≤ 140737488355328) : IsB w a n c l :=
  ⟨h.length, h.at_.imp id (fun ⟨b, off, h1, h2, h3⟩ => ⟨b, off, h1, h2, fun i hi => h3 i (by rw [h.length]; exact hi)⟩), h.nil, h.room, hn⟩
theorem isB_owns {w : World} {base n : Nat} {v : Value} {l : List UInt8} (h : w.ownsRow base 5 1 v n (l.map Nam.bv)) (hn : n ≤ 140737488355328) : ∃ a cap, v = .slice a n cap ∧ IsB w a n cap l := by
  obtain ⟨a, cap, e, hB, _⟩ := Nam.isB_of_owns h
  exact ⟨a, cap, e, ofNam hB hn⟩

/-- 'append' of texts that came in or are the call's own, nil and empty ones too. -/
theorem wpList_append_strs {P : Program} {w : World} {ops : Array Oper} {rest : List Oper} {o : Oper} {a : Act} {Q : Exit → Act → World → Prop} (hgd : o.guard = none) (s x : Operand) (t : TypeId)
    (ho : o.op = .call { callee := .builtin .append, args := #[s, x], argTypes := #[t, t] })
    (base : Nat) (e : TypeId) (i : TypeInfo) (ht : P.underlying t = some (.slice e)) (hi : P.info? e = some i) (hz : i.zero = some (.string ByteArray.empty))
    (hsize : i.size = 1) (hby : i.bytes = 16)
    (v : Value) (n : Nat) (l : List ByteArray) (hs : a.eval s = v) (hown : w.ownsRow base e 1 v n (l.map Value.string))
    (ao : Option Addr) (m c : Nat) (k : List ByteArray) (hx : a.eval x = .slice ao m c) (hsrc : IsS w ao m c k)
    (hbytes : (n + m) * 16 ≤ 140737488355328) (hbase : base ≤ w.heap.size)
    (h : ∀ v' w', w'.ownsRow base e 1 v' (n + m) ((l ++ k).map Value.string) → w.grownBy w' v.ownBlock → wpList P ops Q rest (a.put o.dst v') w') : wpList P ops Q (o :: rest) a w := by
  obtain ⟨h1, h2, h4, _⟩ := hsrc
  cases ao with
  | none =>
    obtain ⟨rfl, rfl⟩ := h4 rfl
    obtain rfl : k = [] := List.eq_nil_of_length_eq_zero h1
    refine wpList_append_own_none hgd s x t ho base e i 1 ht hi v n (l.map Value.string) hs hown hx ?_
    exact h v w (by simpa using hown) (World.grownBy.refl w _)
  | some ad =>
    refine wpList_append_own w hgd s x t ho base e i _ 1 16 ht hi hz hsize hby rfl (by omega) v n (l.map Value.string) hs hown ad m c (k.map Value.string) hx (by simp [h1]) ?_ ?_ (by unfold maxLen; omega) (by omega) hbase ?_
    · intro j u hj
      rcases h2 with h0 | ⟨b, off, he, hlt, hby'⟩
      · subst h0
        obtain rfl : k = [] := List.eq_nil_of_length_eq_zero h1
        simp at hj
      · cases he
        rw [List.getElem?_map] at hj
        rcases Nat.lt_or_ge j k.length with hlt' | hge
        · rw [List.getElem?_eq_getElem hlt'] at hj
          have hb := hby' j (by omega)
          have hadd : (⟨b, off, none⟩ : Addr).add j = ⟨b, off + j, none⟩ := by cases j <;> simp [Addr.add]
          rw [hadd, hb]
          simp at hj
          rw [← hj]
          simp [List.getD, hlt']
        · rw [List.getElem?_eq_none hge] at hj; cases hj
    · intro u hu
      obtain ⟨b, _, rfl⟩ := List.mem_map.1 hu
      rfl
    · intro v' w' h5 h6 _
      exact h v' w' (by rw [List.map_append]; exact h5) h6

/-- What was grown, and what owns a row there. -/
theorem below_grown {B : Nat} {w0 w w' : World} {e : TypeId} {size n : Nat} {v : Value} {xs : List Value} (hb : Below B w0 w) (hB : B ≤ w.heap.size) (ho : w.ownsRow B e size v n xs) (hg : w.grownBy w' v.ownBlock) : Below B w0 w' :=
  hb.grown hg hB (fun k hk => (ho.lt k hk).1)
theorem own_later {B : Nat} {w w' : World} {e : TypeId} {size n : Nat} {v : Value} {xs : List Value} (h : w.ownsRow B e size v n xs) (hb : Below w.heap.size w w') : w'.ownsRow B e size v n xs :=
  h.kept (row := none) (grown_of_below hb none) (by
    cases hv : v.ownBlock with
    | none => left; rfl
    | some q => right; simp)

/-! The mathematics. -/
theorem ans_inc (Q : Bts → Prop) (l : List Bts) : Inc (ansT Q l) := by
  unfold ansT
  exact List.Pairwise.filter _ (first2_inc _ _ _ (List.Pairwise.filter _ (sortT_inc l)))
theorem key_signs {x : Bts} (h : isP x = true) : ∀ c ∈ keyT x, c ≠ 46 := by
  intro c hc e
  subst e
  unfold isP Nam.parseP at h
  split at h
  · rename_i h2
    have hc' : (46 : UInt8) ∈ x.take 32 := hc
    obtain ⟨k, hk, hk2⟩ := List.getElem_of_mem hc'
    have hd : Nam.dec (x.take 32) = none := Nam.dec_none_oks' (x.take 32) k hk (by
      rw [List.getD_eq_getElem?_getD, List.getElem?_eq_getElem hk, hk2]; show Nam.sv 46 < 0; decide +kernel)
    rw [hd] at h; cases h
  · cases h
theorem ans_mem {Q : Bts → Prop} {l : List Bts} {x : Bts} : x ∈ ansT Q l ↔ x ∈ first2 keyT none ((sortT l).filter isP) ∧ Q (keyT x) := by
  unfold ansT
  rw [List.mem_filter, dQ_iff]
theorem known_isP {l : List Bts} {x : Bts} (h : x ∈ first2 keyT none ((sortT l).filter isP)) : isP x = true := (List.mem_filter.1 (first2_mem _ _ _ _ h)).2
theorem parts_math (a b : Bts) (l : List Bts) : ansT (fun K => K <:+: a ++ 46 :: b) l = sortT (ansT (fun K => K <:+: a) l ++ ansT (fun K => K <:+: b) l) := by
  refine inc_ext (ans_inc _ _) (sortT_inc _) (fun x => ?_)
  rw [sortT_mem, List.mem_append, ans_mem, ans_mem, ans_mem]
  constructor
  · rintro ⟨h1, h2⟩
    rw [infix_border (fun h => key_signs (known_isP h1) _ h rfl)] at h2
    exact h2.elim (fun h => .inl ⟨h1, h⟩) (fun h => .inr ⟨h1, h⟩)
  · rintro (⟨h1, h2⟩ | ⟨h1, h2⟩)
    · exact ⟨h1, (infix_border (fun h => key_signs (known_isP h1) _ h rfl)).2 (.inl h2)⟩
    · exact ⟨h1, (infix_border (fun h => key_signs (known_isP h1) _ h rfl)).2 (.inr h2)⟩

end Go.Proofs.Ytcmgafehidgkmaa
