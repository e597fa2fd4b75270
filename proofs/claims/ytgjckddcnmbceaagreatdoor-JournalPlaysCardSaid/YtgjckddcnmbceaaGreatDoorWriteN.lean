/-
  The digest of any bytes, plainly: what a hasher holds behind a number of bytes, and the state behind whole blocks.
-/
import Derived.Test.YtgjckddcnmbceaaGreatDoorOfSN
import Derived.ProofKit
import Derived.OpenShut
import Derived.Laws.CopyOwn
namespace Go.Proofs.YtgjckddcnmbceaaGreatDoor
open Go.RowKit
set_option linter.unusedVariables false

/-- The digest of bytes. -/
def dig (M : List Nat) : List Nat := sumL (stAt startL M (M.length / 64)) (M.drop (64 * (M.length / 64))) M.length

theorem sumL_length (S T : List Nat) (N : Nat) : (sumL S T N).length = 32 := by unfold sumL; exact bytesL_length _ 32
theorem dig_length (M : List Nat) : (dig M).length = 32 := by unfold dig; exact sumL_length _ _ _
theorem bytesL_lt (S : List Nat) : ∀ k, ∀ x ∈ bytesL S k, x < 256
  | 0 => by intro x hx; simp [bytesL] at hx; omega
  | k + 1 => by
    intro x hx
    rcases List.mem_or_eq_of_mem_set hx with h | h
    · exact bytesL_lt S k x h
    · rw [h]; exact byteAt_lt S k
theorem dig_lt (M : List Nat) : ∀ x ∈ dig M, x < 256 := by unfold dig sumL; exact bytesL_lt _ 32

theorem endL_tail {T T' : List Nat} {N : Nat} (h : T.take (N % 64) = T'.take (N % 64)) : ∀ i, endL T N i = endL T' N i
  | 0 => by unfold endL end0; rw [h]
  | i + 1 => by unfold endL; rw [endL_tail h i]

theorem sumL_tail (S : List Nat) {T T' : List Nat} {N : Nat} (h : T.take (N % 64) = T'.take (N % 64)) : sumL S T N = sumL S T' N := by
  unfold sumL; rw [endL_tail h]

/-- The hasher's row holds just these bytes taken. -/
def Took (L : List Value) (M : List Nat) : Prop := ∃ S T, Holds L S T M.length ∧ S = stAt startL M (M.length / 64) ∧ T.take (M.length % 64) = M.drop (64 * (M.length / 64))

theorem Took.dig {L : List Value} {M S T : List Nat} (hS : S = stAt startL M (M.length / 64)) (hT : T.take (M.length % 64) = M.drop (64 * (M.length / 64))) : sumL S T M.length = dig M := by
  unfold Go.Proofs.YtgjckddcnmbceaaGreatDoor.dig
  rw [hS]
  refine sumL_tail _ ?_
  rw [hT]
  exact (List.take_of_length_le (by rw [List.length_drop]; omega)).symm

theorem Took.rowD {L : List Value} {M : List Nat} (h : Took L M) : Took (Go.Proofs.YtgjckddcnmbceaaGreatDoor.rowD L) M := by
  obtain ⟨S, T, hH, hS, hT⟩ := h
  exact ⟨S, T, hH.rowD, hS, hT⟩

theorem took_new : Took newRow [] := ⟨startL, List.replicate 64 0, newRow_holds, rfl, rfl⟩

/-- The state behind k blocks hangs on these blocks alone. -/
theorem stAt_append (S A B : List Nat) : ∀ k, 64 * k ≤ A.length → stAt S (A ++ B) k = stAt S A k
  | 0, _ => rfl
  | k + 1, h => by
    unfold stAt
    rw [stAt_append S A B k (by omega), List.drop_append_of_le_length (by omega), List.take_append_of_le_length (by rw [List.length_drop]; omega)]

theorem stAt_more (S A B : List Nat) (q : Nat) (hq : A.length = 64 * q) : ∀ k, stAt S (A ++ B) (q + k) = stAt (stAt S A q) B k
  | 0 => by
    rw [Nat.add_zero, stAt_append S A B q (by omega)]; rfl
  | k + 1 => by
    show mixL (stAt S (A ++ B) (q + k)) (((A ++ B).drop (64 * (q + k))).take 64) = mixL (stAt (stAt S A q) B k) ((B.drop (64 * k)).take 64)
    rw [stAt_more S A B q hq k, List.drop_append, List.drop_eq_nil_of_le (by omega), List.nil_append]
    congr 3
    omega

end Go.Proofs.YtgjckddcnmbceaaGreatDoor

namespace Go.Proofs.YtgjckddcnmbceaaGreatDoor
open Go.RowKit
set_option linter.unusedVariables false

/-- A slice of bytes: where there is one, they lie in old cells. -/
structure IsN (w : World) (a : Option Addr) (len cap : Nat) (l : List Nat) : Prop where
  length : l.length = len
  at_ : len = 0 ∨ ∃ b off, a = some ⟨b, off, none⟩ ∧ b < w.heap.size ∧ Bys w b off l
  nil : a = none → len = 0 ∧ cap = 0
  room : len ≤ cap ∧ cap ≤ maxLen
  small : ∀ x ∈ l, x < 256

theorem Bys.but {w w' : World} {b off : Nat} {B : List Nat} {g h : Nat} (H : Bys w b off B) (hb : But g h w w') (hlt : b < g) (hne : b ≠ h) : Bys w' b off B :=
  fun i hi => (World.cell?_of_block (w := w) (hb.block b hlt hne)).trans (H i hi)

theorem Bys.drop {w : World} {b off : Nat} {B : List Nat} (H : Bys w b off B) (k : Nat) : Bys w b (off + k) (B.drop k) := by
  intro i hi
  rw [List.length_drop] at hi
  rw [Nat.add_assoc, H (k + i) (by omega)]
  simp [List.getD, List.getElem?_drop]

theorem Bys.take {w : World} {b off : Nat} {B : List Nat} (H : Bys w b off B) (k : Nat) : Bys w b off (B.take k) := by
  intro i hi
  rw [List.length_take] at hi
  rw [H i (by omega)]
  simp [List.getD, List.getElem?_take_of_lt (show i < k by omega)]

theorem IsN.later {w w' : World} {a : Option Addr} {len cap : Nat} {l : List Nat} (h : IsN w a len cap l) (hb : Below w.heap.size w w') : IsN w' a len cap l := by
  refine ⟨h.length, ?_, h.nil, h.room, h.small⟩
  rcases h.at_ with h0 | ⟨b, off, rfl, hlt, hby⟩
  · exact .inl h0
  · exact .inr ⟨b, off, rfl, Nat.lt_of_lt_of_le hlt hb.size, hby.below hb hlt⟩

theorem hcopy_but {P : Program} {w : World} {ops : Array Oper} {rest : List Oper} {o : Oper} {a : Act} {Q : Exit → Act → World → Prop} (hgd : o.guard = none) (d s : Operand) (dT sT : TypeId)
    (ho : o.op = .call { callee := .builtin .copy, args := #[d, s], argTypes := #[dT, sT] }) (elem : TypeId) (hu : P.underlying dT = some (.slice elem)) (hsz : (P.info? elem).map (·.size) = some 1)
    (dp sp : Option Addr) (dLen dCap sLen sCap : Nat) (hd : a.eval d = .slice dp dLen dCap) (hs : a.eval s = .slice sp sLen sCap)
    (g off : Nat) (cur : List Value) (t : TypeId) (hg : w.heap[g]? = some (.cells cur.toArray t (0, 0))) (cs : List Value) (hn : cs.length = Nat.min sLen dLen)
    (hpos : 0 < cs.length → dp = some ⟨g, off, none⟩ ∧ ∃ ad, sp = some ad ∧ ∀ j v, cs[j]? = some v → w.cell? (ad.add j) = some v)
    (hfit : off + cs.length ≤ cur.length) (h1 : ∀ v ∈ cs, v.oneCell' = true)
    (h : ∀ w', Hid (w'.heap[g]? = some (.cells (splice cur off cs).toArray t (0, 0))) → Hid (But w.heap.size g w w') → wpList P ops Q rest (a.put o.dst (goInt cs.length)) w') :
    wpList P ops Q (o :: rest) a w := by
  by_cases h0 : cs.length = 0
  · obtain rfl : cs = [] := List.eq_nil_of_length_eq_zero h0
    refine wpList_copy_nothing hgd d s dT sT ho elem hu hsz dp sp dLen dCap sLen sCap hd hs (by simpa using hn.symm) ?_
    exact h w (show _ = _ by simpa [splice] using hg) (show But _ _ _ _ from But.refl _ _ _)
  · obtain ⟨rfl, ad, rfl, hsrc⟩ := hpos (by omega)
    refine wpList_copy_own hgd d s dT sT ho elem hu hsz g off dLen dCap ad sLen sCap hd hs cur.toArray t hg cs hn hsrc (by simpa using hfit) h1 ?_
    exact h _ (show _ = _ by simpa [splice] using setRow_heap w g _ _ t _ hg) (show But _ _ _ _ from (But.refl _ _ _).setRow (.inr rfl) _)

end Go.Proofs.YtgjckddcnmbceaaGreatDoor

namespace Go.Proofs.YtgjckddcnmbceaaGreatDoor
open Go.RowKit
set_option linter.unusedVariables false

theorem rowD_low {L K : List Value} (hL : L.length = 140) (hK : K.length = 140) (h : ∀ j, j < 67 → L[j]? = K[j]?) (j : Nat) (hj : j < 67) : (rowD L)[j]? = (rowD K)[j]? := by
  by_cases h3 : 3 ≤ j
  · obtain ⟨i, rfl⟩ : ∃ i, j = 3 + i := ⟨j - 3, by omega⟩
    rw [rowD_word L hL i (by omega), rowD_word K hK i (by omega)]
  unfold rowD
  have lL := rowW_length L 64 (by omega) hL
  have lK := rowW_length K 64 (by omega) hK
  by_cases h0 : j = 0
  · subst h0
    rw [List.getElem?_set_self (by omega), List.getElem?_set_self (by omega)]
  · rw [List.getElem?_set_ne (by omega), List.getElem?_set_ne (by omega)]
    unfold rowW
    rw [List.getElem?_append_left (by simp [hL]; omega), List.getElem?_append_left (by simp [hK]; omega), List.getElem?_take_of_lt (by omega), List.getElem?_take_of_lt (by omega)]
    exact h j hj

theorem Ready.agree {L K : List Value} (h : Ready L) (hK : K.length = 140) (ha : ∀ j, j < 67 → K[j]? = L[j]?) : Ready K := by
  obtain ⟨hL, h1, h0⟩ := h
  refine ⟨hK, (ha 1 (by omega)).trans h1, ?_⟩
  rcases h0 with h0 | ⟨h0, he⟩
  · exact .inl ((ha 0 (by omega)).trans h0)
  · refine .inr ⟨(ha 0 (by omega)).trans h0, ?_⟩
    apply List.ext_getElem?
    intro j
    by_cases hj : j < 67
    · rw [rowD_low hK hL ha j hj, he]; exact (ha j hj).symm
    · exact rowD_get K hK j (by omega)

theorem Holds.counted {L : List Value} {S T : List Nat} {N : Nat} (h : Holds L S T N) (n : Nat) (hn : n < 18446744073709551616) : Holds (L.set 139 (.int .u64 (n : Int))) S T n := by
  have hL := h.ready.1
  refine ⟨h.ready.agree (by simpa using hL) (fun j hj => List.getElem?_set_ne (by omega)), fun j hj => (List.getElem?_set_ne (by omega)).trans (h.state j hj), fun i hi => (List.getElem?_set_ne (by omega)).trans (h.tail i hi), List.getElem?_set_self (by omega), h.sl, h.ss, h.tl, h.ts, hn⟩

theorem splice_out {α : Type} (L : List α) (o : Nat) (X : List α) (hf : o + X.length ≤ L.length) (j : Nat) (hj : j < o ∨ o + X.length ≤ j) : (splice L o X)[j]? = L[j]? := by
  unfold splice
  rcases hj with hj | hj
  · rw [List.getElem?_append_left (by simp; omega), List.getElem?_take_of_lt hj]
  · rw [List.getElem?_append_right (by simp; omega), List.getElem?_append_right (by simp; omega), List.getElem?_drop]
    congr 1
    simp; omega

theorem splice_in {α : Type} (L : List α) (o : Nat) (X : List α) (hf : o + X.length ≤ L.length) (j : Nat) (hj : j < X.length) : (splice L o X)[o + j]? = X[j]? := by
  unfold splice
  rw [List.getElem?_append_right (by simp; omega), List.getElem?_append_left (by simp; omega)]
  congr 1
  simp; omega

theorem splice_mem {α : Type} (L : List α) (o : Nat) (X : List α) (x : α) (h : x ∈ splice L o X) : x ∈ L ∨ x ∈ X := by
  unfold splice at h
  rcases List.mem_append.1 h with h | h
  · exact .inl (List.mem_of_mem_take h)
  · rcases List.mem_append.1 h with h | h
    · exact .inr h
    · exact .inl (List.mem_of_mem_drop h)

theorem Holds.tailed {L : List Value} {S T : List Nat} {N : Nat} (h : Holds L S T N) (u : Nat) (X : List Nat) (hX : ∀ x ∈ X, x < 256) (hu : u + X.length ≤ 64) : Holds (splice L (75 + u) (X.map byv)) S (splice T u X) N := by
  have hL := h.ready.1
  have hf : 75 + u + (X.map byv).length ≤ L.length := by rw [List.length_map]; omega
  have hft : u + X.length ≤ T.length := by rw [h.tl]; exact hu
  have out : ∀ j, j < 75 + u ∨ 75 + u + X.length ≤ j → (splice L (75 + u) (X.map byv))[j]? = L[j]? := fun j hj => splice_out _ _ _ hf j (by rw [List.length_map]; exact hj)
  refine ⟨h.ready.agree (by rw [length_splice _ _ _ hf]; exact hL) (fun j hj => out j (by omega)), fun j hj => (out _ (by omega)).trans (h.state j hj), ?_, (out _ (by omega)).trans h.num, h.sl, h.ss, by rw [length_splice _ _ _ hft]; exact h.tl, ?_, h.nl⟩
  · intro i hi
    by_cases hin : u ≤ i ∧ i < u + X.length
    · obtain ⟨j, rfl⟩ : ∃ j, i = u + j := ⟨i - u, by omega⟩
      have e1 := splice_in L (75 + u) (X.map byv) hf j (by rw [List.length_map]; omega)
      have e2 := splice_in T u X hft j (by omega)
      rw [show 75 + (u + j) = 75 + u + j from by omega, e1, List.getD_eq_getElem?_getD, e2]
      rw [map_get byv X j (by omega)]; rfl
    · rw [out (75 + i) (by omega), h.tail i hi, List.getD_eq_getElem?_getD, List.getD_eq_getElem?_getD, splice_out T u X hft i (by omega)]
  · intro x hx
    rcases splice_mem _ _ _ _ hx with hx | hx
    · exact h.ts x hx
    · exact hX x hx

def setL (L : List Value) (o : Nat) : List Value → List Value
  | [] => L
  | v :: r => setL (L.set o v) (o + 1) r

theorem setL_length : ∀ (vs : List Value) (L : List Value) (o : Nat), (setL L o vs).length = L.length
  | [], _, _ => rfl
  | v :: r, L, o => by unfold setL; rw [setL_length r]; simp
theorem setL_out : ∀ (vs : List Value) (L : List Value) (o j : Nat), j < o ∨ o + vs.length ≤ j → (setL L o vs)[j]? = L[j]?
  | [], _, _, _, _ => rfl
  | v :: r, L, o, j, h => by
    unfold setL
    rw [setL_out r (L.set o v) (o + 1) j (by simp at h; omega), List.getElem?_set_ne (by simp at h; omega)]
theorem setL_in : ∀ (vs : List Value) (L : List Value) (o j : Nat), j < vs.length → o + vs.length ≤ L.length → (setL L o vs)[o + j]? = vs[j]?
  | [], _, _, _, h, _ => by simp at h
  | v :: r, L, o, 0, h, hl => by
    unfold setL
    rw [setL_out r (L.set o v) (o + 1) (o + 0) (by omega), Nat.add_zero, List.getElem?_set_self (by simp at hl; omega)]; rfl
  | v :: r, L, o, j + 1, h, hl => by
    unfold setL
    rw [show o + (j + 1) = o + 1 + j from by omega, setL_in r (L.set o v) (o + 1) j (by simpa using h) (by simp at hl ⊢; omega)]; rfl

theorem Has.setCells {b : Nat} {t : TypeId} : ∀ (vs : List Value) {w : World} {L : List Value} (o : Nat), Has w b L t → Has (w.setCells b o vs) b (setL L o vs) t
  | [], _, _, _, h => h
  | v :: r, w, L, o, h => by
    unfold World.setCells setL
    exact Has.setCells r (o + 1) (h.set o v)

theorem But.setCells {B b : Nat} {x : World} : ∀ (vs : List Value) {w : World} (o : Nat), But B b x w → But B b x (w.setCells b o vs)
  | [], _, _, h => h
  | v :: r, w, o, h => by
    unfold World.setCells
    exact But.setCells r (o + 1) (h.setB o v)

theorem Holds.stated {L : List Value} {S T : List Nat} {N : Nat} (h : Holds L S T N) (S' : List Nat) (hl : S'.length = 8) (hs : ∀ x ∈ S', x < 4294967296) : Holds (setL L 67 (S'.map wv)) S' T N := by
  have hL := h.ready.1
  have hv : (S'.map wv).length = 8 := by rw [List.length_map, hl]
  refine ⟨h.ready.agree (by rw [setL_length]; exact hL) (fun j hj => setL_out _ _ _ _ (.inl hj)), fun j hj => ?_, fun i hi => (setL_out _ _ _ _ (.inr (by omega))).trans (h.tail i hi), (setL_out _ _ _ _ (.inr (by omega))).trans h.num, hl, hs, h.tl, h.ts, h.nl⟩
  rw [setL_in _ L 67 j (by omega) (by omega)]
  exact map_get wv S' j (by omega)

/-! The bytes. -/
theorem tail_short {M B T : List Nat} (hl : T.length = 64) (hT : T.take (M.length % 64) = M.drop (64 * (M.length / 64))) (hB : M.length % 64 + B.length < 64) :
    (M ++ B).length / 64 = M.length / 64 ∧ (splice T (M.length % 64) B).take ((M ++ B).length % 64) = (M ++ B).drop (64 * ((M ++ B).length / 64)) := by
  have e1 : (M ++ B).length / 64 = M.length / 64 := by rw [List.length_append]; omega
  refine ⟨e1, ?_⟩
  rw [e1, List.drop_append_of_le_length (by omega), ← hT]
  have e2 : (M ++ B).length % 64 = (T.take (M.length % 64) ++ B).length := by simp [hl]; omega
  unfold splice
  rw [e2, ← List.append_assoc, List.take_left]

theorem tail_full {M B T : List Nat} (hl : T.length = 64) (hT : T.take (M.length % 64) = M.drop (64 * (M.length / 64))) (hB : 64 ≤ M.length % 64 + B.length) :
    splice T (M.length % 64) (B.take (64 - M.length % 64)) = ((M ++ B).drop (64 * (M.length / 64))).take 64 := by
  have e1 : (T.take (M.length % 64)).take 64 = T.take (M.length % 64) := List.take_of_length_le (by rw [List.length_take]; omega)
  have e2 : (T.take (M.length % 64)).length = M.length % 64 := by rw [List.length_take]; omega
  rw [List.drop_append_of_le_length (by omega), ← hT, List.take_append, e1, e2]
  unfold splice
  rw [List.drop_eq_nil_of_le (by rw [List.length_take]; omega), List.append_nil]

theorem drop_in (M B : List Nat) (d : Nat) : (M ++ B).drop (M.length + d) = B.drop d := by
  rw [List.drop_append, List.drop_eq_nil_of_le (by omega : M.length ≤ M.length + d), List.nil_append]; congr 1; omega

theorem tail_rest {M B T : List Nat} (d : Nat) (hl : T.length = 64) (hd : d ≤ B.length) (hm : (M.length + d) % 64 = 0) (hr : B.length - d < 64) :
    (M ++ B).length / 64 = (M.length + d) / 64 ∧ (splice T 0 (B.drop d)).take ((M ++ B).length % 64) = (M ++ B).drop (64 * ((M ++ B).length / 64)) := by
  have e1 : (M ++ B).length / 64 = (M.length + d) / 64 := by rw [List.length_append]; omega
  refine ⟨e1, ?_⟩
  have e2 : (M ++ B).length % 64 = (B.drop d).length := by rw [List.length_append, List.length_drop]; omega
  have e3 : 64 * ((M ++ B).length / 64) = M.length + d := by rw [e1]; omega
  unfold splice
  rw [e2, e3, List.take_zero, List.nil_append, List.take_left, drop_in]

theorem block_at {M B : List Nat} (d : Nat) (hm : (M.length + d) % 64 = 0) : ((M ++ B).drop (64 * ((M.length + d) / 64))).take 64 = (B.drop d).take 64 := by
  rw [show 64 * ((M.length + d) / 64) = M.length + d from by omega, drop_in]

end Go.Proofs.YtgjckddcnmbceaaGreatDoor
