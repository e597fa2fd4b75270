/-
  What a search holds: the paths that are looked for, their places by their digests, the signs of these. No program text.
-/
import Derived.Test.YtcmgafehidgkmaaRfKey
import Derived.Test.YtcmgafehidgkmaaRfSortR
namespace Go.Proofs.Ytcmgafehidgkmaa
open Go.RowKit
set_option linter.unusedVariables false

/-- A path's digest, as bytes. -/
def keyB (x : ByteArray) : Bts := x.data.toList.take 32
theorem keyB_len {x : ByteArray} (h : 32 ≤ x.size) : (keyB x).length = 32 := by
  unfold keyB; rw [List.length_take]; have : x.data.toList.length = x.size := by simp
  omega
/-- The cells of what is looked for. -/
def tgC : List ByteArray → List Bool → List Value
  | x :: ss, m :: ms => .string x :: .bool m :: tgC ss ms
  | _, _ => []
theorem tgC_append : ∀ {ss : List ByteArray} {ms : List Bool} (x : ByteArray) (m : Bool), ms.length = ss.length → tgC (ss ++ [x]) (ms ++ [m]) = tgC ss ms ++ [.string x, .bool m]
  | [], [], _, _, _ => rfl
  | y :: ss, k :: ms, x, m, h => by
    show .string y :: .bool k :: tgC (ss ++ [x]) (ms ++ [m]) = _
    rw [tgC_append x m (by simpa using h)]; rfl
theorem tgC_len : ∀ {ss : List ByteArray} {ms : List Bool}, ms.length = ss.length → (tgC ss ms).length = ss.length * 2
  | [], [], _ => rfl
  | y :: ss, k :: ms, h => by
    show (tgC ss ms).length + 1 + 1 = _
    rw [tgC_len (by simpa using h), List.length_cons]; omega
theorem tgC_at : ∀ {ss : List ByteArray} {ms : List Bool} (i : Nat), ms.length = ss.length → i < ss.length → (tgC ss ms)[i * 2]? = some (.string (ss.getD i ⟨#[]⟩)) ∧ (tgC ss ms)[i * 2 + 1]? = some (.bool (ms.getD i false))
  | y :: ss, k :: ms, 0, _, _ => ⟨rfl, rfl⟩
  | y :: ss, k :: ms, i + 1, h, hi => by
    have ih := tgC_at (ss := ss) (ms := ms) i (by simpa using h) (by simpa using hi)
    rw [show (i + 1) * 2 = i * 2 + 1 + 1 by omega]
    exact ih
theorem tgC_set : ∀ {ss : List ByteArray} {ms : List Bool} (i : Nat) (m : Bool), ms.length = ss.length → (tgC ss ms).set (i * 2 + 1) (.bool m) = tgC ss (ms.set i m)
  | [], [], _, _, _ => rfl
  | y :: ss, k :: ms, 0, m, _ => rfl
  | y :: ss, k :: ms, i + 1, m, h => by
    have ih := tgC_set (ss := ss) (ms := ms) i m (by simpa using h)
    rw [show (i + 1) * 2 + 1 = (i * 2 + 1) + 1 + 1 by omega]
    show .string y :: .bool k :: (tgC ss ms).set (i * 2 + 1) (.bool m) = .string y :: .bool k :: tgC ss (ms.set i m)
    rw [ih]

/-- The search at block s: v the row of the paths, mb the block of the places, sg the signs, D the places as read. -/
structure Sr (w : World) (B s : Nat) (v : Value) (mb : Nat) (sg : List Bool) (D : DataW Unit) (ss : List ByteArray) (ms : List Bool) : Prop where
  row : Has w s (v :: .map (some mb) :: sg.map Value.bool) 58
  len : sg.length = 256
  own : w.ownsRow B 65 2 v ss.length (tgC ss ms)
  same : ms.length = ss.length
  map : w.ownsMap Try.prog 63 (plainElem Try.prog 3) mb ss.length D
  hs : B ≤ s
  hm : B ≤ mb
/-- What the places and the signs say, as mathematics. -/
structure SrM (sg : List Bool) (D : DataW Unit) (ss : List ByteArray) : Prop where
  long : ∀ x ∈ ss, 32 ≤ x.size
  has : ∀ K, K.length = 32 → (Go.Maps.has D (kl K) = true ↔ ∃ x ∈ ss, keyB x = K)
  at_ : ∀ i, i < ss.length → D.atKey (kl (keyB (ss.getD i ⟨#[]⟩))) (.lit (.int .i64 0)) = .lit (.int .i64 (i : Int))
  sign : ∀ b : UInt8, sg.getD b.toNat false = true ↔ ∃ x ∈ ss, b ∈ keyB x

/-- What is looked for when one path more has come. -/
def addT (ss : List ByteArray) (ms : List Bool) (x : ByteArray) : List ByteArray × List Bool := if ss.any (fun y => decide (keyB y = keyB x)) then (ss, ms) else (ss ++ [x], ms ++ [false])
theorem SrM.addT_old {sg : List Bool} {D : DataW Unit} {ss : List ByteArray} (h : SrM sg D ss) {x : ByteArray} (hx : 32 ≤ x.size) (ms : List Bool) (hyes : Go.Maps.has D (kl (keyB x)) = true) : addT ss ms x = (ss, ms) := by
  obtain ⟨y, hy, e⟩ := (h.has _ (keyB_len hx)).1 hyes
  unfold addT
  rw [if_pos]
  rw [List.any_eq_true]; exact ⟨y, hy, decide_eq_true e⟩
theorem SrM.addT_new {sg : List Bool} {D : DataW Unit} {ss : List ByteArray} (h : SrM sg D ss) {x : ByteArray} (hx : 32 ≤ x.size) (ms : List Bool) (hno : Go.Maps.has D (kl (keyB x)) = false) : addT ss ms x = (ss ++ [x], ms ++ [false]) := by
  unfold addT
  rw [if_neg]
  rw [List.any_eq_true]
  rintro ⟨y, hy, e⟩
  have := (h.has _ (keyB_len hx)).2 ⟨y, hy, of_decide_eq_true e⟩
  rw [hno] at this; cases this

theorem sg_set {sg : List Bool} (i : Nat) (hi : i < sg.length) (j : Nat) : (sg.set i true).getD j false = true ↔ j = i ∨ sg.getD j false = true := by
  rw [List.getD_eq_getElem?_getD, List.getElem?_set, List.getD_eq_getElem?_getD]
  by_cases h : i = j
  · subst h; simp [hi]
  · rw [if_neg h]
    constructor
    · exact .inr
    · rintro (h2 | h2)
      · exact absurd h2.symm h
      · exact h2

/-- One path more among those that are looked for. -/
theorem SrM.push {sg sg' : List Bool} {D : DataW Unit} {ss : List ByteArray} (h : SrM sg D ss) (hD : Go.Maps.IsMap D) {x : ByteArray} (hx : 32 ≤ x.size) (hno : Go.Maps.has D (kl (keyB x)) = false)
    (hsg : ∀ b : UInt8, sg'.getD b.toNat false = true ↔ b ∈ keyB x ∨ sg.getD b.toNat false = true) : SrM sg' (D.put (kl (keyB x)) (.lit (.int .i64 (ss.length : Int)))) (ss ++ [x]) := by
  have hne : ∀ y ∈ ss, kl (keyB y) ≠ kl (keyB x) := fun y hy e => by
    have := (h.has _ (keyB_len hx)).2 ⟨y, hy, kl_inj (keyB_len (h.long y hy)) (keyB_len hx) e⟩
    rw [hno] at this; cases this
  refine ⟨?_, ?_, ?_, ?_⟩
  · intro y hy
    rcases List.mem_append.1 hy with hy | hy
    · exact h.long y hy
    · rw [List.mem_singleton.1 hy]; exact hx
  · intro K hK
    by_cases e : K = keyB x
    · subst e
      rw [Go.Maps.has_put_same hD (kl_key _)]
      exact ⟨fun _ => ⟨x, by simp, rfl⟩, fun _ => rfl⟩
    · rw [Go.Maps.has_put_other (fun e2 => e (kl_inj hK (keyB_len hx) e2)), h.has K hK]
      constructor
      · rintro ⟨y, hy, e2⟩; exact ⟨y, by simp [hy], e2⟩
      · rintro ⟨y, hy, e2⟩
        rcases List.mem_append.1 hy with hy | hy
        · exact ⟨y, hy, e2⟩
        · rw [List.mem_singleton.1 hy] at e2; exact absurd e2.symm e
  · intro i hi
    by_cases e : i < ss.length
    · have hg : (ss ++ [x]).getD i ⟨#[]⟩ = ss.getD i ⟨#[]⟩ := by
        rw [List.getD_eq_getElem?_getD, List.getElem?_append_left e, List.getD_eq_getElem?_getD]
      have hmem : ss.getD i ⟨#[]⟩ ∈ ss := by
        rw [List.getD_eq_getElem?_getD, List.getElem?_eq_getElem e]; exact List.getElem_mem e
      rw [hg, Go.Maps.atKey_put_other (hne _ hmem), h.at_ i e]
    · have hi' : i = ss.length := by rw [List.length_append] at hi; simp at hi; omega
      subst hi'
      have hg : (ss ++ [x]).getD ss.length ⟨#[]⟩ = x := by
        rw [List.getD_eq_getElem?_getD, List.getElem?_append_right (Nat.le_refl _), Nat.sub_self]; rfl
      rw [hg, Go.Maps.atKey_put_same hD (kl_key _)]
  · intro b
    rw [hsg, h.sign]
    constructor
    · rintro (h1 | ⟨y, hy, h1⟩)
      · exact ⟨x, by simp, h1⟩
      · exact ⟨y, by simp [hy], h1⟩
    · rintro ⟨y, hy, h1⟩
      rcases List.mem_append.1 hy with hy | hy
      · exact .inr ⟨y, hy, h1⟩
      · rw [List.mem_singleton.1 hy] at h1; exact .inl h1

/-- A row of its own and a block with a row of another type are two. -/
theorem own_ne {w : World} {B size n : Nat} {e t : TypeId} {v : Value} {xs L : List Value} {s : Nat} (h : w.ownsRow B e size v n xs) (hs : Has w s L t) (hte : e ≠ t) : v.ownBlock ≠ some s := by
  rcases h.2 with ⟨rfl, _⟩ | ⟨g, cap, cur, rfl, _, hg, _⟩
  · simp [Value.ownBlock]
  · intro e2
    simp only [Value.ownBlock, Option.some.injEq] at e2
    subst e2
    rw [hs] at hg
    injection hg with hg
    injection hg with _ h2
    exact hte h2.symm
theorem own_ne_map {w : World} {B size n k : Nat} {e t : TypeId} {v : Value} {xs : List Value} {mb : Nat} {D : DataW Unit} {P : Program} {R : Value → Option (DataW Unit × List MemPlace)} (h : w.ownsRow B e size v n xs) (hs : w.ownsMap P t R mb k D) : v.ownBlock ≠ some mb := by
  rcases h.2 with ⟨rfl, _⟩ | ⟨g, cap, cur, rfl, _, hg, _⟩
  · simp [Value.ownBlock]
  · intro e2
    simp only [Value.ownBlock, Option.some.injEq] at e2
    subst e2
    obtain ⟨es, clock, hb, _⟩ := hs
    rw [hb] at hg
    cases hg
theorem has_ne_map {w : World} {k : Nat} {t u : TypeId} {L : List Value} {s mb : Nat} {D : DataW Unit} {P : Program} {R : Value → Option (DataW Unit × List MemPlace)} (h : Has w s L u) (hs : w.ownsMap P t R mb k D) : s ≠ mb := by
  rintro rfl
  obtain ⟨es, clock, hb, _⟩ := hs
  unfold Has at h
  rw [hb] at h
  cases h

/-- All but the search's own blocks is as it was. -/
structure Oth (s mb : Nat) (v : Value) (w w' : World) : Prop where
  os : w'.os = w.os
  tape : w'.tape = w.tape
  output : w'.output = w.output
  size : w.heap.size ≤ w'.heap.size
  block : ∀ k, k < w.heap.size → k ≠ s → k ≠ mb → some k ≠ v.ownBlock → w'.heap[k]? = w.heap[k]?
theorem Oth.trans {s mb : Nat} {v : Value} {x y z : World} (h : Oth s mb v x y) (k : Oth s mb v y z) : Oth s mb v x z :=
  ⟨k.os.trans h.os, k.tape.trans h.tape, k.output.trans h.output, Nat.le_trans h.size k.size, fun i hi h1 h2 h3 => (k.block i (Nat.lt_of_lt_of_le hi h.size) h1 h2 h3).trans (h.block i hi h1 h2 h3)⟩
theorem Oth.of_below {s mb : Nat} {v : Value} {w w' : World} (h : Below w.heap.size w w') : Oth s mb v w w' := ⟨h.os, h.tape, h.output, h.size, fun k hk _ _ _ => h.block k hk⟩
theorem Oth.of_grown {s mb : Nat} {v : Value} {w w' : World} {row : Option Nat} (h : w.grownBy w' row) (hr : row = some s ∨ row = some mb ∨ row = v.ownBlock) : Oth s mb v w w' :=
  ⟨h.os, h.tape, h.output, h.size, fun k hk h1 h2 h3 => h.block k hk (by
    rcases hr with rfl | rfl | rfl
    · simpa using h1
    · simpa using h2
    · exact h3)⟩
theorem gset (w : World) (a : Addr) (u : Value) : w.grownBy (w.setCell a u) (some a.block) :=
  ⟨rfl, rfl, rfl, by simp, fun k _ hk => Below.heap_setCell w a u k (fun e => hk (by rw [e]))⟩
/-- A cell of the search's own block is written. -/
theorem Sr.sign {w : World} {B s : Nat} {v : Value} {mb : Nat} {sg : List Bool} {D : DataW Unit} {ss : List ByteArray} {ms : List Bool} (h : Sr w B s v mb sg D ss ms) (i : Nat) : Sr (w.setCell ⟨s, i + 2, none⟩ (.bool true)) B s v mb (sg.set i true) D ss ms :=
  ⟨by
    have h2 := h.row.set (i + 2) (.bool true)
    rw [List.set_cons_succ, List.set_cons_succ, ← List.map_set] at h2
    exact h2, by rw [List.length_set]; exact h.len, h.own.kept (gset w ⟨s, i + 2, none⟩ _) (.inr (own_ne h.own h.row (by decide))), h.same, h.map.setCell (fun e => has_ne_map h.row h.map e.symm) _, h.hs, h.hm⟩
theorem grown_of_below {w w' : World} (h : Below w.heap.size w w') (row : Option Nat) : w.grownBy w' row := ⟨h.os, h.tape, h.output, h.size, fun i hi _ => h.block i hi⟩
/-- What the search holds stays while new memory is made. -/
theorem Sr.below {w w' : World} {B s : Nat} {v : Value} {mb : Nat} {sg : List Bool} {D : DataW Unit} {ss : List ByteArray} {ms : List Bool} (h : Sr w B s v mb sg D ss ms) (hb : Below w.heap.size w w') : Sr w' B s v mb sg D ss ms :=
  ⟨h.row.below hb h.row.lt, h.len, h.own.kept (row := none) (grown_of_below hb none) (by
    rcases h.own.2 with ⟨e, _⟩ | ⟨g, cap, cur, e, _⟩
    · left; rw [e]; rfl
    · right; rw [e]; simp [Value.ownBlock]), h.same, h.map.kept (grown_of_below hb none) (by simp), h.hs, h.hm⟩
theorem Sr.drewN {w : World} {B s : Nat} {v : Value} {mb : Nat} {sg : List Bool} {D : DataW Unit} {ss : List ByteArray} {ms : List Bool} (h : Sr w B s v mb sg D ss ms) (k : Nat) : Sr (w.drewN k) B s v mb sg D ss ms :=
  ⟨h.row, h.len, h.own, h.same, h.map, h.hs, h.hm⟩

end Go.Proofs.Ytcmgafehidgkmaa
