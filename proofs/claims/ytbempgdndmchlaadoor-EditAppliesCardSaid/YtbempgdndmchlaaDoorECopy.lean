/-
  A copy of a tree: the program's Copy, and which slot each row belongs to. Conditions: its names and lists are no longer than memory; it has at most a million parts.
-/
import Derived.Test.YtbempgdndmchlaaDoorEOwn
import Derived.Test.YtbempgdndmchlaaDoorEMem
import Derived.Laws.ResultCell
import Derived.Laws.Rows
import Derived.Deep.LoopGhost
namespace Go.Proofs.YtbempgdndmchlaaDoor
open Go.RowKit
set_option linter.unusedVariables false

def zT : List Value := [.int .u8 0, .bool false, .slice none 0 0, .slice none 0 0, .slice none 0 0]
def entV (p : Nat × List T × Nat) : Value := .slice (some ⟨p.1, 0, none⟩) p.2.1.length p.2.2
def muS (S : List (Nat × List T × Nat)) : Nat := (S.map fun p => sizeNL p.2.1).sum
theorem muS_snoc (S : List (Nat × List T × Nat)) (p : Nat × List T × Nat) : muS (S ++ [p]) = muS S + sizeNL p.2.1 := by simp [muS]
theorem muS_len : ∀ (S : List (Nat × List T × Nat)), (∀ p ∈ S, p.2.1 ≠ []) → S.length ≤ muS S
  | [], _ => by simp
  | p :: S, h => by
    have h1 := muS_len S (fun q hq => h q (by simp [hq]))
    have h2 := sizeNL_len p.2.1
    have h3 : p.2.1.length ≠ 0 := fun e => h p (by simp) (List.eq_nil_of_length_eq_zero e)
    have e : muS (p :: S) = sizeNL p.2.1 + muS S := by simp [muS]
    rw [e, List.length_cons]
    omega

def SmG (G : Nat → Option (List T)) : Prop := ∀ b ks, G b = some ks → ∀ i, i < ks.length → Small (ks.getD i default)

/-- At the head of the outer loop: at most so many trees are to be met. -/
def EOut (w : World) (t : T) (g1 g2 : Nat) (k : Nat) (tv : Value) (wr : World) : Prop :=
  ∃ S G O, wr.ownsRow w.heap.size 24 1 tv S.length (S.map entV) ∧ ECpy w wr G O S none ∧ G g2 = some [t] ∧ muS S = k ∧ k ≤ sizeN t ∧ Has wr g1 zT 26 ∧ (∀ b ks, G b = some ks → g1 < b) ∧ SmG G

/-- At the head of the inner loop: i trees of row b have lists of their own. -/
def EIn (w : World) (t : T) (g1 g2 b : Nat) (ks : List T) (M i : Nat) (tv : Value) (wr : World) : Prop :=
  ∃ S G O L, wr.ownsRow w.heap.size 24 1 tv S.length (S.map entV) ∧ ECpy w wr G O S (some b) ∧ G g2 = some [t] ∧ G b = some ks ∧ muS S + sizeNL (ks.drop i) + i ≤ M ∧ Has wr b L 26 ∧
    (∀ j, j < i → EFlat wr w.heap.size G O (b, j) (five L j) (ks.getD j default)) ∧ (∀ j, i ≤ j → j < ks.length → ∃ n, IsT w n (five L j) (ks.getD j default)) ∧ Has wr g1 zT 26 ∧ (∀ b ks, G b = some ks → g1 < b) ∧ SmG G

def ECopyPost (w : World) (t : T) (e : Ending) (w' : World) : Prop := ∃ cs G O s, e = .returned (.agg cs.toArray) ∧ EClosed w' w.heap.size G O s cs t ∧ Below w.heap.size w w'


theorem owns_alloc_lit (w : World) (B : Nat) (cs : List Value) (e : TypeId) (n size : Nat) (hb : B ≤ w.heap.size) (hm : n ≤ maxLen) (hs : cs.length = n * size) :
    (w.alloc (.cells cs.toArray e)).ownsRow B e size (.slice (some ⟨w.heap.size, 0, none⟩) n n) n cs :=
  ⟨hs, .inr ⟨w.heap.size, n, cs.toArray, rfl, hb, heap_alloc_new w _, Nat.le_refl _, hm, by simpa using hs, by simp [← hs]⟩⟩

theorem copy_start {w : World} {n : Nat} {t : T} {c0 c1 c2 c3 c4 : Value} (hT : IsT w n [c0, c1, c2, c3, c4] t) (hs : Small t) :
    EOut w t (w.heap.size + 1) (w.heap.size + 1 + 1) (sizeN t) (.slice (some ⟨w.heap.size + 1 + 1 + 1, 0, none⟩) 1 1)
      ((((w.alloc (.cells #[c0, c1, c2, c3, c4] 26)).alloc (.cells #[.int .u8 0, .bool false, .slice none 0 0, .slice none 0 0, .slice none 0 0] 26)).alloc (.cells #[c0, c1, c2, c3, c4] 26)).alloc (.cells #[.slice (some ⟨w.heap.size + 1 + 1, 0, none⟩) 1 1] 24)) := by
  obtain ⟨w1, hw1⟩ : ∃ w1, w1 = w.alloc (.cells #[c0, c1, c2, c3, c4] 26) := ⟨_, rfl⟩
  have e1 : w1.heap.size = w.heap.size + 1 := by rw [hw1]; simp
  have b1 : Below w.heap.size w w1 := by rw [hw1]; exact (Below.refl _ _).alloc (Nat.le_refl _) _
  rw [← hw1]
  obtain ⟨w2, hw2⟩ : ∃ w2, w2 = w1.alloc (.cells #[.int .u8 0, .bool false, .slice none 0 0, .slice none 0 0, .slice none 0 0] 26) := ⟨_, rfl⟩
  have e2 : w2.heap.size = w.heap.size + 1 + 1 := by rw [hw2, ← e1]; simp
  have z2 : Has w2 (w.heap.size + 1) zT 26 := by rw [hw2, ← e1]; exact Has.new w1 zT _
  have b2 : Below w.heap.size w w2 := by rw [hw2]; exact b1.alloc b1.size _
  rw [← hw2]
  obtain ⟨w3, hw3⟩ : ∃ w3, w3 = w2.alloc (.cells #[c0, c1, c2, c3, c4] 26) := ⟨_, rfl⟩
  have e3 : w3.heap.size = w.heap.size + 1 + 1 + 1 := by rw [hw3, ← e2]; simp
  have y3 : Has w3 (w.heap.size + 1 + 1) [c0, c1, c2, c3, c4] 26 := by rw [hw3, ← e2]; exact Has.new w2 _ _
  have z3 : Has w3 (w.heap.size + 1) zT 26 := by rw [hw3]; exact z2.alloc _
  have b3 : Below w.heap.size w w3 := by rw [hw3]; exact b2.alloc b2.size _
  rw [← hw3]
  have o4 := owns_alloc_lit w3 w.heap.size [.slice (some ⟨w.heap.size + 1 + 1, 0, none⟩) 1 1] 24 1 1 (by omega) (by unfold maxLen; omega) rfl
  rw [e3] at o4
  have y4 := y3.alloc (.cells #[.slice (some ⟨w.heap.size + 1 + 1, 0, none⟩) 1 1] 24)
  have z4 := z3.alloc (.cells #[.slice (some ⟨w.heap.size + 1 + 1, 0, none⟩) 1 1] 24)
  have b4 := b3.alloc b3.size (.cells #[.slice (some ⟨w.heap.size + 1 + 1, 0, none⟩) 1 1] 24)
  refine ⟨[(w.heap.size + 1 + 1, [t], 1)], fun x => if x = w.heap.size + 1 + 1 then some [t] else none, fun _ => none, o4, ⟨b4, ?_, ?_, ?_, by simp, fun g s hg => by cases hg⟩, by simp, by simp [muS, sizeNL], Nat.le_refl _, z4, ?_, ?_⟩
  · intro b ks hg
    by_cases e : b = w.heap.size + 1 + 1
    · subst e; exact ⟨by omega, y4.lt⟩
    · simp [e] at hg
  · intro b ks hg hS hc
    by_cases e : b = w.heap.size + 1 + 1
    · subst e; exact absurd rfl (hS (w.heap.size + 1 + 1, [t], 1) (by simp))
    · simp [e] at hg
  · intro p hp
    simp only [List.mem_cons, List.not_mem_nil, or_false] at hp
    subst hp
    refine ⟨by simp, ⟨_, y4, fun i hi => ?_⟩, by simp, by simp, by simp, by unfold maxLen; simp⟩
    obtain rfl : i = 0 := by simp at hi; omega
    exact ⟨n, by simpa [five] using hT⟩
  · intro b ks hg
    by_cases e : b = w.heap.size + 1 + 1
    · subst e; omega
    · simp [e] at hg
  · intro b ks hg i hi
    by_cases e : b = w.heap.size + 1 + 1
    · simp [e] at hg; subst hg
      obtain rfl : i = 0 := by simp at hi; omega
      simpa using hs
    · simp [e] at hg

theorem EClosed.but {w w' : World} {B q : Nat} {G : Nat → Option (List T)} {O : Nat → Option (Nat × Nat)} {s : Nat × Nat} {cs : List Value} {t : T} (h : EClosed w B G O s cs t) (hb : But w.heap.size q w w') (hq : Far w q) (hne : ∀ ks, G q ≠ some ks) : EClosed w' B G O s cs t :=
  ⟨fun b ks hg => ⟨(h.1 b ks hg).1, (h.1 b ks hg).2.but hb hq (fun e => hne ks (e ▸ hg)) (fun _ _ h => h) (fun _ _ h => h) (fun ks hg => absurd hg (hne ks))⟩, h.2.1.but hb hq (fun _ _ h => h) (fun _ _ h => h) (fun ks hg => absurd hg (hne ks)), h.2.2⟩

theorem flat_one {w : World} {B : Nat} {G : Nat → Option (List T)} {cs : List Value} {t : T} (h : Flat w B G cs t) : cs.length = 5 ∧ cs.toArray.all (·.oneCell') = true := by
  obtain ⟨k, x, d, ns, ks⟩ := t
  obtain ⟨vd, vn, ak, nk, ck, rfl, hd, hn, _⟩ := h
  refine ⟨rfl, ?_⟩
  have h1 : vd.oneCell' = true := by rcases hd.2 with ⟨rfl, _⟩ | ⟨g, cap, cur, rfl, _⟩ <;> rfl
  have h2 : vn.oneCell' = true := by rcases hn.2 with ⟨rfl, _⟩ | ⟨g, cap, cur, rfl, _⟩ <;> rfl
  simp [h1, h2]
  exact ⟨rfl, rfl, rfl⟩

theorem owns_pre {w : World} {B : Nat} {e : TypeId} {g n cap : Nat} {xs : List Value} {x : Value} (h : w.ownsRow B e 1 (.slice (some ⟨g, 0, none⟩) (n + 1) cap) (n + 1) (xs ++ [x])) : w.ownsRow B e 1 (.slice (some ⟨g, 0, none⟩) n cap) n xs := by
  have hl : xs.length = n := by have := h.1; simp at this; exact this
  rcases h.2 with ⟨h0, _⟩ | ⟨g', cap', cur, he, hg, hgg, hle, hmx, hsz, htk⟩
  · cases h0
  · cases he
    refine ⟨by omega, .inr ⟨g, cap, cur, rfl, hg, hgg, by omega, hmx, hsz, ?_⟩⟩
    have := congrArg (List.take n) htk
    rw [List.take_take, List.take_append_of_le_length (by omega), List.take_of_length_le (l := xs) (by omega)] at this
    rw [Nat.mul_one, ← this]
    congr 1
    omega

/-- In the middle of a round of the inner loop: tree i of row b is being given lists of its own. -/
structure EMid (w : World) (t : T) (g1 g2 b : Nat) (ks : List T) (i : Nat) (S : List (Nat × List T × Nat)) (G : Nat → Option (List T)) (O : Nat → Option (Nat × Nat)) (L : List Value) (wr : World) : Prop where
  cpy : ECpy w wr G O S (some b)
  root : G g2 = some [t]
  gb : G b = some ks
  has : Has wr b L 26
  done : ∀ j, j < i → EFlat wr w.heap.size G O (b, j) (five L j) (ks.getD j default)
  old : ∀ j, i < j → j < ks.length → ∃ n, IsT w n (five L j) (ks.getD j default)
  res : Has wr g1 zT 26
  g1lt : ∀ b ks, G b = some ks → g1 < b
  sm : SmG G

section
variable {w wr w' : World} {t : T} {g1 g2 b i : Nat} {ks : List T} {S : List (Nat × List T × Nat)} {G : Nat → Option (List T)} {O : Nat → Option (Nat × Nat)} {L : List Value}

theorem EMid.but {q : Nat} (h : EMid w t g1 g2 b ks i S G O L wr) (hb : But wr.heap.size q wr w') (hq : Far wr q) (hB : w.heap.size ≤ q) (hne : ∀ ks, G q ≠ some ks) (hz : q ≠ g1) : EMid w t g1 g2 b ks i S G O L w' :=
  ⟨h.cpy.but hb hq hB (fun ks hg => absurd hg (hne ks)) (fun ks hg => absurd hg (hne ks)), h.root, h.gb, h.has.but hb h.has.lt (fun e => hne ks (e ▸ h.gb)), fun j hj => (h.done j hj).but hb hq (fun _ _ h => h) (fun _ _ h => h) (fun ks hg => absurd hg (hne ks)), h.old,
    h.res.but hb h.res.lt (fun e => hz e.symm), h.g1lt, h.sm⟩

theorem EMid.later (h : EMid w t g1 g2 b ks i S G O L wr) (hb : Below wr.heap.size wr w') : EMid w t g1 g2 b ks i S G O L w' :=
  h.but (q := wr.heap.size) (But.of_below hb) (far_new wr) h.cpy.below.size (fun ks hg => by have := (h.cpy.fresh _ _ hg).2; omega) (fun e => by have := h.res.lt; omega)

theorem EMid.named (h : EMid w t g1 g2 b ks i S G O L wr) (v : Value) (hv : ∀ g, v.ownBlock = some g → b < g ∧ O g = none ∧ w.heap.size ≤ g ∧ g < wr.heap.size) : EMid w t g1 g2 b ks i S G (extO O v (b, i)) L wr :=
  ⟨h.cpy.named v (fun g hg => hv g hg), h.root, h.gb, h.has, fun j hj => (h.done j hj).but (But.refl _ wr.heap.size _) (far_new wr) (fun _ _ h => h) (extO_old (fun g hg => (hv g hg).2.1)) (fun _ _ => rfl), h.old, h.res, h.g1lt, h.sm⟩
theorem EMid.store (h : EMid w t g1 g2 b ks i S G O L wr) (j0 : Nat) (hj0 : j0 < 5) (v : Value) : EMid w t g1 g2 b ks i S G O (L.set (i * 5 + j0) v) (wr.setCell ⟨b, i * 5 + j0, none⟩ v) := by
  have hb : But wr.heap.size b wr (wr.setCell ⟨b, i * 5 + j0, none⟩ v) := (But.refl _ _ _).setB _ _
  have hq := far_has h.has (by decide) (by decide)
  have hlt := h.g1lt _ _ h.gb
  refine ⟨h.cpy.but hb hq (h.cpy.fresh _ _ h.gb).1 (fun _ _ => rfl) (fun _ _ => bsize_set h.has), h.root, h.gb, h.has.set _ _, fun j hj => ?_, fun j hj hl => ?_, h.res.but hb h.res.lt (by omega), h.g1lt, h.sm⟩
  · rw [five_set_other _ _ _ _ _ hj0 (by omega)]
    exact (h.done j hj).but hb hq (fun _ _ h => h) (fun _ _ h => h) (fun _ _ => bsize_set h.has)
  · rw [five_set_other _ _ _ _ _ hj0 (by omega)]
    exact h.old j hj hl

theorem EMid.grown {tv : Value} {n : Nat} {xs : List Value} (h : EMid w t g1 g2 b ks i S G O L wr) (hown : wr.ownsRow w.heap.size 24 1 tv n xs) (hg : wr.grownBy w' tv.ownBlock) : EMid w t g1 g2 b ks i S G O L w' := by
  rcases hown.2 with ⟨rfl, _⟩ | ⟨g, cap, cur, rfl, hB, hgg, _⟩
  · exact h.later ⟨hg.os, hg.tape, hg.output, hg.size, fun k hk => hg.block k hk (by simp [Value.ownBlock])⟩
  · have hT : ∀ L', Has wr g L' 26 → False := fun L' hL' => by
      have h' : wr.heap[g]? = some (.cells L'.toArray 26 (0, 0)) := hL'
      rw [hgg] at h'; cases h'
    have hbb : But wr.heap.size g wr w' := ⟨hg.os, hg.tape, hg.output, hg.size, fun k hk hne => hg.block k hk (by simpa [Value.ownBlock] using hne)⟩
    refine h.but hbb (far_cells hgg (by decide) (by decide)) hB (fun ks' hk => ?_) (fun e => hT _ (e ▸ h.res))
    by_cases e : g = b
    · exact hT _ (e ▸ h.has)
    · by_cases hp : ∃ p ∈ S, p.1 = g
      · obtain ⟨p, hp, hpg⟩ := hp
        obtain ⟨_, ⟨L', hL', _⟩, _⟩ := h.cpy.pend p hp
        exact hT _ (hpg ▸ hL')
      · obtain ⟨L', hL', _⟩ := h.cpy.done g ks' hk (fun p hp' e' => hp ⟨p, hp', e'⟩) (fun e' => e (Option.some.inj e').symm)
        exact hT _ hL'

/-- Tree i has lists of its own, and no kids. -/
theorem EMid.leaf {M : Nat} {tv : Value} {ti : T} (h : EMid w t g1 g2 b ks i S G O L wr) (hti : ti = ks.getD i default) (hi : i < ks.length) (hown : wr.ownsRow w.heap.size 24 1 tv S.length (S.map entV))
    (hF : EFlat wr w.heap.size G O (b, i) (five L i) ti) (hM : muS S + sizeNL (ks.drop i) + i ≤ M) : EIn w t g1 g2 b ks M (i + 1) tv wr := by
  have h1 := sizeNL_drop hi
  have h2 := sizeN_pos (ks.getD i default)
  refine ⟨S, G, O, L, hown, h.cpy, h.root, h.gb, by omega, h.has, fun j hj => ?_, fun j hj => h.old j (by omega), h.res, h.g1lt, h.sm⟩
  by_cases e : j = i
  · subst e; rw [← hti]; exact hF
  · exact h.done j (by omega)

/-- Tree i has lists of its own; its kids, in row q, must get theirs. -/
theorem EMid.node {M q c : Nat} {tv : Value} {k : UInt8} {x : Bool} {d : List UInt8} {ns : List ByteArray} {kks : List T} {vd vn : Value} (h : EMid w t g1 g2 b ks i S G O L wr) (hti : T.mk k x d ns kks = ks.getD i default) (hi : i < ks.length)
    (hown : wr.ownsRow w.heap.size 24 1 tv (S.length + 1) (S.map entV ++ [entV (q, kks, c)])) (hP : Pend w wr q kks) (hnew : G q = none) (h0 : w.heap.size ≤ q) (hkk : kks ≠ []) (hq1 : g1 < q) (hc : kks.length ≤ c) (hcm : c ≤ maxLen)
    (hvd : wr.ownsRow w.heap.size 5 1 vd d.length (d.map bv)) (hvn : wr.ownsRow w.heap.size 9 1 vn ns.length (ns.map Value.string))
    (hF : five L i = [.int .u8 (k.toNat : Int), .bool x, vd, vn, .slice (some ⟨q, 0, none⟩) kks.length c]) (hM : muS S + sizeNL (ks.drop i) + i ≤ M) (hblt : b < q) (hcap : c * 5 = bsize wr q) (honew : O q = none) (hvo : ∀ g, vn.ownBlock = some g → O g = some (b, i)) : EIn w t g1 g2 b ks M (i + 1) tv wr := by
  have h1 := sizeNL_drop hi
  rw [← hti, sizeN_mk] at h1
  have hG : ∀ b' ks', G b' = some ks' → (fun x => if x = q then some kks else G x) b' = some ks' := fun b' ks' hg => by
    by_cases e : b' = q
    · rw [e, hnew] at hg; cases hg
    · simpa [e] using hg
  have hO : ∀ b' s', O b' = some s' → (fun x => if x = q then some (b, i) else O x) b' = some s' := fun b' s' hg => by
    by_cases e : b' = q
    · rw [e, honew] at hg; cases hg
    · simpa [e] using hg
  have hbq : q ≠ b := fun e => by rw [e, h.gb] at hnew; cases hnew
  have hmu := muS_snoc S (q, kks, c)
  have hmu' : muS (S ++ [(q, kks, c)]) = muS S + sizeNL kks := hmu
  have hbr := But.refl wr.heap.size wr.heap.size wr
  have hsi : Small (.mk k x d ns kks) := by rw [hti]; exact h.sm b ks h.gb i hi
  refine ⟨S ++ [(q, kks, c)], _, _, L, by simpa using hown, h.cpy.push hP hnew h0 hkk hbq hc hcm (s := (b, i)) hblt honew, hG _ _ h.root, hG _ _ h.gb, by omega, h.has, fun j hj => ?_, fun j hj => h.old j (by omega), h.res, fun b' ks' hg => ?_, fun b' ks' hg j hj => ?_⟩
  · by_cases e : j = i
    · subst e
      rw [← hti]
      exact ⟨vd, vn, some ⟨q, 0, none⟩, _, c, hF, hvd, hvn, rfl, hc, hcm, .inr ⟨q, rfl, hkk, by simp, by simp, hcap⟩, fun g hg => hO _ _ (hvo g hg)⟩
    · exact (h.done j (by omega)).but hbr (far_new wr) hG hO (fun _ _ => rfl)
  · by_cases e : b' = q
    · rw [e]; exact hq1
    · exact h.g1lt b' ks' (by simpa [e] using hg)
  · by_cases e : b' = q
    · simp [e] at hg
      subst hg
      cases hsi with
      | mk _ h2 _ => exact h2 j hj
    · exact h.sm b' ks' (by simpa [e] using hg) j hj
end

/-- A row of another type, behind new memory and a store into row b. -/
theorem row_step {w w1 : World} {B b o : Nat} {e : TypeId} {size n : Nat} {v u : Value} {xs L : List Value} (h : w.ownsRow B e size v n xs) (hb : Below w.heap.size w w1) (hL : Has w1 b L 26) (he : e ≠ 26) : (w1.setCell ⟨b, o, none⟩ u).ownsRow B e size v n xs := by
  have h1 : w1.ownsRow B e size v n xs := owns_but h (But.of_below (b := w.heap.size) hb) (fun cs f => by simp)
  refine owns_but h1 ((But.refl _ b _).setB _ _) (fun cs f e' => ?_)
  have h' : w1.heap[b]? = some (.cells L.toArray 26 (0, 0)) := hL
  rw [h'] at e'; cases e'; exact he rfl

theorem row_later {w w1 : World} {B : Nat} {e : TypeId} {size n : Nat} {v : Value} {xs : List Value} (h : w.ownsRow B e size v n xs) (hb : Below w.heap.size w w1) : w1.ownsRow B e size v n xs :=
  owns_but h (But.of_below (b := w.heap.size) hb) (fun cs f => by simp)

/-- What a row of trees that own has made is, behind a store into an older row. -/
theorem kids_row {w w4 w5 : World} {m b o : Nat} {v u : Value} {kks : List T} {LK : List Value} (h : w5.ownsRow w4.heap.size 26 5 v kks.length LK) (hF : ∀ i, i < kks.length → IsT w m (five LK i) (kks.getD i default)) (hb : b < w4.heap.size) (he : kks = [] → v = .slice none 0 0) :
    (kks = [] ∧ ∃ a c, v = .slice a 0 c ∧ (a = none ∧ c = 0) ∧ c ≤ maxLen) ∨ ∃ q c, kks ≠ [] ∧ v = .slice (some ⟨q, 0, none⟩) kks.length c ∧ w4.heap.size ≤ q ∧ kks.length ≤ c ∧ c ≤ maxLen ∧ Pend w (w5.setCell ⟨b, o, none⟩ u) q kks ∧ c * 5 = bsize (w5.setCell ⟨b, o, none⟩ u) q := by
  rcases h.2 with ⟨rfl, h0⟩ | ⟨q, c, cur, rfl, hq, hh, hl, hm, hs, htk⟩
  · exact .inl ⟨List.eq_nil_of_length_eq_zero h0, none, 0, rfl, ⟨rfl, rfl⟩, Nat.zero_le _⟩
  · by_cases hk : kks = []
    · subst hk
      cases he rfl
    refine .inr ⟨q, c, hk, rfl, hq, hl, hm, ⟨cur.toList, ?_, fun i hi => ⟨m, ?_⟩⟩, ?_⟩
    · have hH : Has w5 q cur.toList 26 := by unfold Has; rw [hh]
      exact hH.setOther (by show q ≠ b; omega) _
    · have := five_take (L := cur.toList) hi
      rw [htk] at this
      rw [← this]; exact hF i hi
    · unfold bsize
      rw [heap_setCell_other w5 ⟨b, o, none⟩ q u (by show q ≠ b; omega), hh]
      exact hs.symm

theorem Pend.grown {w wr w' : World} {B q n : Nat} {kks : List T} {tv : Value} {xs : List Value} (h : Pend w wr q kks) (hown : wr.ownsRow B 24 1 tv n xs) (hg : wr.grownBy w' tv.ownBlock) : Pend w w' q kks := by
  rcases hown.2 with ⟨rfl, _⟩ | ⟨g, cap, cur, rfl, hB, hgg, _⟩
  · exact h.but (q := wr.heap.size) (But.of_below ⟨hg.os, hg.tape, hg.output, hg.size, fun k hk => hg.block k hk (by simp [Value.ownBlock])⟩) (fun e => by obtain ⟨L, hL, _⟩ := h; have := hL.lt; omega)
  · refine h.but (q := g) ⟨hg.os, hg.tape, hg.output, hg.size, fun k hk hne => hg.block k hk (by simpa [Value.ownBlock] using hne)⟩ (fun e => ?_)
    obtain ⟨L, hL, _⟩ := h
    have h' : wr.heap[q]? = some (.cells L.toArray 26 (0, 0)) := hL
    rw [e, hgg] at h'; cases h'

theorem bsize_grown {w wr w' : World} {B q n : Nat} {kks : List T} {tv : Value} {xs : List Value} (h : Pend w wr q kks) (hown : wr.ownsRow B 24 1 tv n xs) (hg : wr.grownBy w' tv.ownBlock) (hz : bsize wr q ≠ 0) : bsize w' q = bsize wr q := by
  unfold bsize
  rw [hg.block q (bsize_lt hz) (fun e => ?_)]
  rcases hown.2 with ⟨rfl, _⟩ | ⟨g, cap, cur, rfl, hB, hgg, _⟩
  · cases e
  · cases e
    obtain ⟨L, hL, _⟩ := h
    have h' : wr.heap[g]? = some (.cells L.toArray 26 (0, 0)) := hL
    rw [hgg] at h'; cases h'
theorem row_grown {wr w' : World} {B B' n m size : Nat} {e : TypeId} {tv v : Value} {xs ys : List Value} (h : wr.ownsRow B' e size v m ys) (he : e ≠ 24) (hown : wr.ownsRow B 24 1 tv n xs) (hg : wr.grownBy w' tv.ownBlock) : w'.ownsRow B' e size v m ys := by
  rcases hown.2 with ⟨rfl, _⟩ | ⟨g, cap, cur, rfl, hB, hgg, _⟩
  · exact row_later h ⟨hg.os, hg.tape, hg.output, hg.size, fun k hk => hg.block k hk (by simp [Value.ownBlock])⟩
  · refine owns_but h (q := g) ⟨hg.os, hg.tape, hg.output, hg.size, fun k hk hne => hg.block k hk (by simpa [Value.ownBlock] using hne)⟩ (fun cs f e' => ?_)
    rw [hgg] at e'; cases e'; exact he rfl

theorem info_trees : (Tryd.prog.info? 24).map (fun i => (i.zero, i.size, i.bytes)) = some (some (.slice none 0 0), 1, 24) := by kernel_rfl
theorem info_trees_parts : ∃ i, Tryd.prog.info? 24 = some i ∧ i.zero = some (.slice none 0 0) ∧ i.size = 1 ∧ i.bytes = 24 := by
  have h := info_trees
  cases hi : Tryd.prog.info? 24 with
  | none => rw [hi] at h; cases h
  | some i =>
    rw [hi] at h
    simp only [Option.map_some, Option.some.injEq, Prod.mk.injEq] at h
    exact ⟨i, rfl, h.1, h.2.1, h.2.2⟩

set_option maxRecDepth 100000 in
set_option maxHeartbeats 20000000 in
theorem copy_any (n : Nat) (cs : List Value) (t : T) (w : World) (ht : IsT w n cs t) (hs : Small t) (hN : sizeN t ≤ 1000000) :
    Calls Tryd.prog 25 #[.agg cs.toArray] w (ECopyPost w t) := by
  have HI5 := Lib.hid (infoL (isT_five ht))
  obtain ⟨c0, c1, c2, c3, c4, rfl⟩ := five_list (isT_five ht)
  have HST := Lib.hid (copy_start ht hs)
  obtain ⟨i0, hi0, hz0, hz1, hz2⟩ := info_trees_parts
  have HI := Lib.hid hi0
  have HZ0 := Lib.hid hz0
  have HZ1 := Lib.hid hz1
  have HZ2 := Lib.hid hz2
  clear ht hs hi0 hz0 hz1 hz2
  go_enter Tryd.func25, Tryd.ntmps25
  go_wp2_with fail
  go_loopg [4] (sizeN t) (fun k tv wr => EOut w t (w.heap.size + 1) (w.heap.size + 1 + 1) k tv wr)
  case atStart => exact HST.out
  case round =>
    clear HST
    obtain ⟨S, G, O, hown, hcpy, hroot, hmu, hk, hz, hg1, hsm⟩ := hrel
    have HOWN := Lib.hid hown
    have HCPY := Lib.hid hcpy
    have HROOT := Lib.hid hroot
    have HMU := Lib.hid hmu
    have HZ := Lib.hid hz
    have HG1 := Lib.hid hg1
    have HSM := Lib.hid hsm
    have hlen := muS_len S (fun p hp => (hcpy.pend p hp).2.2.1)
    rcases List.eq_nil_or_concat S with hS | ⟨S', p, hS⟩
    · have hform : ∃ a c, u4 = .slice a 0 c := by
        subst hS
        rcases hown.2 with ⟨rfl, _⟩ | ⟨g, cap, cur, rfl, _⟩
        · exact ⟨_, _, rfl⟩
        · exact ⟨_, _, rfl⟩
      obtain ⟨a, c, rfl⟩ := hform
      obtain ⟨L, hL, hcl⟩ := ECpy.eclosed (by rw [← hS]; exact hcpy) hroot
      have hL5 := (flat_one hcl.2.1.flat).1
      have hLI : Hid ((Tryd.prog.info? 26).map (·.size) = some (five L 0).length) := Lib.hid (by rw [info5, hL5])
      have hLA := Lib.hid (infoL hL5)
      have HLO := Lib.hid (flat_one hcl.2.1.flat).2
      have HLS : Hid (zT.toArray.size = (five L 0).toArray.size) := Lib.hid (by simp [hL5, zT])
      have HCL := Lib.hid hcl
      have HLH := Lib.hid hL
      have HRG : Hid (wr.rangeAt (w.heap.size + 1 + 1) 0 (five L 0)) := Lib.hid (fun j v hv => by
        have hj : j < 5 := by have := (List.getElem?_eq_some_iff.1 hv).1; omega
        rw [five_get j hj] at hv
        rw [Nat.zero_add]
        exact hL.cellAt (by simpa using hv))
      clear hown hcpy hroot hmu hz hg1 hsm hS hL hcl hL5
      generalize five L 0 = L5 at *
      go_wp2_with (first
        | (refine wpList_load_mid rfl 26 _ rfl (w.heap.size + 1 + 1) 0 rfl L5 _ HRG.out Tryd.underlying26 rfl hLI.out ?_)
        | (refine wpList_store_row rfl 26 _ _ rfl (w.heap.size + 1) L5.toArray rfl rfl 26 _ HZ.out hLA.out HLS.out HLO.out ?_))
      refine bodyPost_ret (results_cell_row (fn := Tryd.f25) (p := 2) (ty := 26) Tryd.results25 _ _ (w.heap.size + 1) 26 L5.toArray (0, 0) _ rfl (setRow_heap _ _ _ _ _ _ HZ.out) Tryd.underlying26 rfl hLA.out) rfl ?_
      refine ⟨L5, G, O, _, rfl, HCL.out.but ((But.refl _ _ _).setRow (.inr rfl) _) (far_has HZ.out (by decide) (by decide)) (fun ks hg => ?_), below_setRow HCPY.out.below (by omega) _⟩
      have := HG1.out _ _ hg
      omega
    · rw [List.concat_eq_append] at hS
      subst hS
      obtain ⟨b, ks, c⟩ := p
      obtain ⟨m, hm⟩ : ∃ m, m = S'.length := ⟨_, rfl⟩
      obtain ⟨kl, hkl⟩ : ∃ kl, kl = ks.length := ⟨_, rfl⟩
      have hown2 : wr.ownsRow w.heap.size 24 1 u4 (m + 1) (S'.map entV ++ [entV (b, ks, c)]) := by rw [hm]; simpa using hown
      have hform : ∃ g cap, u4 = .slice (some ⟨g, 0, none⟩) (m + 1) cap ∧ m + 1 ≤ cap := by
        rcases hown2.2 with ⟨_, h0⟩ | ⟨g, cap, cur, rfl, _, _, h1, _⟩
        · omega
        · exact ⟨_, _, rfl, h1⟩
      obtain ⟨g, cap, rfl, hcap⟩ := hform
      have hcell : wr.cell? ⟨g, m, none⟩ = some (.slice (some ⟨b, 0, none⟩) kl c) := by
        rw [World.ownsRow.cellAt hown2 m (by omega), List.getElem?_append_right (by simp [hm]), hkl]
        simp [hm, entV]
      obtain ⟨hc2, hP, hGb, hne, hlc, hcm⟩ := hcpy.pop
      obtain ⟨L, hL, hF⟩ := hP
      have hmu2 := muS_snoc S' (b, ks, c)
      have HCI : Hid (EIn w t (w.heap.size + 1) (w.heap.size + 1 + 1) b ks gk 0 (.slice (some ⟨g, 0, none⟩) m cap) wr) := Lib.hid
        ⟨S', G, O, L, by have := owns_pre hown2; rw [← hm]; exact this, hc2, hroot, hGb, by rw [List.drop_zero]; have : sizeNL ((b, ks, c) : Nat × List T × Nat).2.1 = sizeNL ks := rfl; omega, hL, fun j hj => by omega, fun j _ hj => hF j hj, hz, hg1, hsm⟩
      have HKL := Lib.hid hkl
      have HNE := Lib.hid hne
      have hm6 : m ≤ 999999 := by rw [List.length_append] at hlen; simp at hlen; omega
      have hkl6 : kl ≤ 1000000 := by
        have := sizeNL_len ks
        have : sizeNL ((b, ks, c) : Nat × List T × Nat).2.1 = sizeNL ks := rfl
        omega
      have hgk : gk ≤ 1000000 := by omega
      have HKN := Lib.hid hk
      have hwr : wrap64 (((m + 1 : Nat) : Int) - 1) = (m : Int) := by
        rw [show ((m + 1 : Nat) : Int) - 1 = (m : Int) by omega]
        unfold wrap64; omega
      clear HOWN HCPY HROOT HMU HZ HG1 HSM hown hcpy hroot hmu hk hz hg1 hsm hlen hm hkl hown2 hc2 hGb hne hL hF hmu2
      go_wp2_with fail
      obtain ⟨wo, hwo⟩ : ∃ wo : World, wo = wr := ⟨_, rfl⟩
      go_loopw [4, 27] (fun tv iv wx => ∃ i : Nat, i ≤ kl ∧ iv = .int .i64 i ∧ EIn w t (w.heap.size + 1) (w.heap.size + 1 + 1) b ks gk i tv wx) (fun _ iv _ => kl - (intOf iv).toNat)
      case atStart => exact ⟨0, Nat.zero_le _, rfl, HCI.out⟩
      case round =>
        clear HCI
        obtain ⟨i, hi, rfl, S, G, O, L, hown, hcpy, hroot, hGb, hM, hL, hdone, hold, hz, hg1, hsm⟩ := hrel
        by_cases hlt : i < kl
        · have hlk : i < ks.length := by rw [← HKL.out]; exact hlt
          obtain ⟨n', hTi⟩ := hold i (Nat.le_refl _) hlk
          have mid : EMid w t (w.heap.size + 1) (w.heap.size + 1 + 1) b ks i S G O L wr := ⟨hcpy, hroot, hGb, hL, hdone, fun j hj => hold j (by omega), hz, hg1, hsm⟩
          have hsi := hsm b ks hGb i hlk
          obtain ⟨ti, hti⟩ : ∃ ti, ti = ks.getD i default := ⟨_, rfl⟩
          rw [← hti] at hTi hsi
          cases n' with
          | zero => exact absurd hTi (by simp [IsT])
          | succ n' =>
          obtain ⟨k, x, d, ns, kks⟩ := ti
          obtain ⟨ad, nd, cd, an, nn, cn, ak, nk, ck, hfv, hB, hS, hK⟩ := hTi
          obtain ⟨q0, q1, q2, q3, q4⟩ := five_at hfv
          cases hsi with
          | mk _ s2 s3 =>
          have hSl := muS_len S (fun p hp => (hcpy.pend p hp).2.2.1)
          have hSl6 : S.length ≤ 1000000 := by omega
          have hbl := hcpy.below
          have KB := Lib.hid (ownB_any ad nd cd d wr (hB.later hbl))
          have hc2 := hL.cellAt q2
          have hki : (i : Int) < (kl : Int) := by omega
          have HMID := Lib.hid mid
          have HOWN := Lib.hid hown
          have HFV := Lib.hid hfv
          have HSS := Lib.hid hS
          have HKK := Lib.hid hK
          have HTI := Lib.hid hti
          have HMM := Lib.hid hM
          have HBL := Lib.hid hbl
          have HS2 := Lib.hid s2
          have HS3 := Lib.hid s3
          have hnd : nd = d.length := hB.length.symm
          have hnn : nn = ns.length := hS.length.symm
          have hnk : nk = kks.length := hK.length.symm
          have HND := Lib.hid hnd
          have HNN := Lib.hid hnn
          have HNK := Lib.hid hnk
          have HLT := Lib.hid hlt
          clear hown hcpy hroot hGb hM hL hdone hold hz hg1 hsm mid hfv hB hS hK q0 q1 q2 q3 q4 hti s2 s3 hbl hSl hnd hnn hnk
          go_wp2_with fail
          refine KB.out.mono ?_
          rintro e w1 ⟨v1, rfl, o1, b1⟩
          rw [HND.out] at o1
          replace o1 := owns_low o1 HBL.out.size
          obtain ⟨a1, c1', rfl, _⟩ := isB_owned o1 HS3.out.1
          have M1 := HMID.out.later b1
          have hfz := M1.has.frozen (i * 5 + 2)
          have hcl := M1.has.cellAt (five_at HFV.out).2.2.1
          have O1 := Lib.hid (row_step (o := i * 5 + 2) (u := .slice a1 d.length c1') o1 (Below.refl _ _) M1.has (by decide))
          have OT1 := Lib.hid (row_step (o := i * 5 + 2) (u := .slice a1 d.length c1') HOWN.out b1 M1.has (by decide))
          have HM2 := Lib.hid (M1.store 2 (by omega) (.slice a1 d.length c1'))
          have HF2 : Hid (five (L.set (i * 5 + 2) (.slice a1 d.length c1')) i = [.int .u8 (k.toNat : Int), .bool x, .slice a1 d.length c1', .slice an nn cn, .slice ak nk ck]) := Lib.hid (by rw [five_set_same _ _ _ _ (by omega), HFV.out]; rfl)
          have HW1 := Lib.hid b1.size
          clear o1 b1 M1 KB hc2 HMID HOWN HFV
          go_upto_region 11 with fail
          generalize w1.setCell ⟨b, i * 5 + 2, none⟩ (.slice a1 d.length c1') = w2 at *
          generalize L.set (i * 5 + 2) (.slice a1 d.length c1') = L2 at *
          clear hfz hcl
          have KS := Lib.hid (ownS_any an nn cn ns w2 (HSS.out.later HM2.out.cpy.below) (by rw [HNN.out]; exact HS3.out.2.1))
          have hc3 := HM2.out.has.cellAt (five_at HF2.out).2.2.2.1
          go_wp2_with fail
          refine KS.out.mono ?_
          rintro e w3 ⟨v3, rfl, o3, b3⟩
          rw [HNN.out] at o3
          have hv3 : ∀ g, v3.ownBlock = some g → w2.heap.size ≤ g ∧ g < w3.heap.size := fun g hg => by
            rcases o3.2 with ⟨rfl, _⟩ | ⟨g', cap', cur', rfl, hg0, hgg, _⟩
            · cases hg
            · cases hg; exact ⟨hg0, (Array.getElem?_eq_some_iff.1 hgg).1⟩
          replace o3 := owns_low o3 HM2.out.cpy.below.size
          have M3' := (HM2.out.later b3).named v3 (fun g hg => by
            have h9 := hv3 g hg
            have h8 := (HM2.out.cpy.fresh _ _ HM2.out.gb).2
            refine ⟨by omega, ?_, Nat.le_trans HM2.out.cpy.below.size h9.1, h9.2⟩
            cases ho : O g with
            | none => rfl
            | some s' => have := (HM2.out.cpy.ofresh g s' ho).2.1; omega)
          obtain ⟨O2, hO2⟩ : ∃ O2, O2 = extO O v3 (b, i) := ⟨_, rfl⟩
          have HO2 : Hid (∀ g, v3.ownBlock = some g → O2 g = some (b, i)) := Lib.hid (fun g hg => by rw [hO2]; exact extO_same hg)
          rw [← hO2] at M3'
          clear hO2 hv3
          obtain ⟨a3, c3', rfl, _⟩ := isS_owned o3
          have M3 := M3'
          clear M3'
          have hfz := M3.has.frozen (i * 5 + 3)
          have hcl := M3.has.cellAt (five_at HF2.out).2.2.2.1
          have O3 := Lib.hid (row_step (o := i * 5 + 3) (u := .slice a3 ns.length c3') o3 (Below.refl _ _) M3.has (by decide))
          have O1' := Lib.hid (row_step (o := i * 5 + 3) (u := .slice a3 ns.length c3') O1.out b3 M3.has (by decide))
          have OT3 := Lib.hid (row_step (o := i * 5 + 3) (u := .slice a3 ns.length c3') OT1.out b3 M3.has (by decide))
          have HM4 := Lib.hid (M3.store 3 (by omega) (.slice a3 ns.length c3'))
          have HF4 : Hid (five (L2.set (i * 5 + 3) (.slice a3 ns.length c3')) i = [.int .u8 (k.toNat : Int), .bool x, .slice a1 d.length c1', .slice a3 ns.length c3', .slice ak nk ck]) := Lib.hid (by rw [five_set_same _ _ _ _ (by omega), HF2.out]; rfl)
          have HB24 := Lib.hid HM2.out.cpy.below.size
          clear o3 b3 M3 KS hc3 HM2 OT1 O1 HF2
          go_upto_region 12 with fail
          generalize w3.setCell ⟨b, i * 5 + 3, none⟩ (.slice a3 ns.length c3') = w4 at *
          generalize L2.set (i * 5 + 3) (.slice a3 ns.length c3') = L4 at *
          clear hfz hcl
          have KK := Lib.hid (eownK_any w n' ak nk ck kks w4 (HKK.out.mono HM4.out.cpy.below (fun _ _ h => h)) (by rw [HNK.out]; exact HS3.out.2.2))
          have hc4 := HM4.out.has.cellAt (five_at HF4.out).2.2.2.2
          go_wp2_with fail
          refine KK.out.mono ?_
          rintro e w5 ⟨⟨v5, LK, rfl, o5, hF5, b5⟩, hz5⟩
          have he5 : kks = [] → v5 = .slice none 0 0 := fun h => by have := hz5 h; cases this; rfl
          have M5 := HM4.out.later b5
          have hfz := M5.has.frozen (i * 5 + 4)
          have hcl := M5.has.cellAt (five_at HF4.out).2.2.2.2
          have hkids := kids_row (o := i * 5 + 4) (u := v5) o5 hF5 HM4.out.has.lt he5
          have O3' := Lib.hid (row_step (o := i * 5 + 4) (u := v5) O3.out b5 M5.has (by decide))
          have O1'' := Lib.hid (row_step (o := i * 5 + 4) (u := v5) O1'.out b5 M5.has (by decide))
          have OT5 := Lib.hid (row_step (o := i * 5 + 4) (u := v5) OT3.out b5 M5.has (by decide))
          have HM6 := Lib.hid (M5.store 4 (by omega) v5)
          have HF6 : Hid (five (L4.set (i * 5 + 4) v5) i = [.int .u8 (k.toNat : Int), .bool x, .slice a1 d.length c1', .slice a3 ns.length c3', v5]) := Lib.hid (by rw [five_set_same _ _ _ _ (by omega), HF4.out]; rfl)
          have HB46 := Lib.hid HM4.out.cpy.below.size
          have HG4 := Lib.hid HM4.out.cpy.fresh
          have HOF := Lib.hid HM4.out.cpy.ofresh
          clear o5 b5 M5 KK hc4 HM4 OT3 O1' O3 HF4 hz5 he5
          have hlr : i * 5 + 4 < 9223372036854775807 := by omega
          rcases hkids with ⟨hkk, a6, c6, rfl, hac6, hcm6⟩ | ⟨q, c, hkk, rfl, hq, hqc, hcm', hP, hcap⟩
          · have HAC := Lib.hid hac6
            have HCM6 := Lib.hid hcm6
            have HKK0 := Lib.hid hkk
            clear hac6 hcm6 hkk
            go_upto_region 13 with fail
            generalize w5.setCell ⟨b, i * 5 + 4, none⟩ (.slice a6 0 c6) = w6 at *
            generalize L4.set (i * 5 + 4) (.slice a6 0 c6) = L6 at *
            clear hfz hcl
            have hc4 := HM6.out.has.cellAt (five_at HF6.out).2.2.2.2
            go_wp2_with fail
            go_roundw
            case rel =>
              have hlt := HLT.out
              have hlk : i < ks.length := by rw [← HKL.out]; exact hlt
              refine ⟨i + 1, by omega, by go_num, HM6.out.leaf HTI.out hlk OT5.out ?_ HMM.out⟩
              exact ⟨_, _, a6, 0, c6, HF6.out, O1''.out, O3'.out, by rw [HKK0.out]; rfl, Nat.zero_le _, HCM6.out, .inl ⟨HKK0.out, HAC.out⟩, HO2.out⟩
            case measure =>
              have := HLT.out
              simp only [intOf]; omega
          · have HP := Lib.hid hP
            have HCAP := Lib.hid hcap
            have hkpos : 0 < kks.length := List.length_pos_iff.2 hkk
            have HKK0 := Lib.hid hkk
            clear hP hkk hcap
            go_upto_region 13 with fail
            generalize w5.setCell ⟨b, i * 5 + 4, none⟩ (.slice (some ⟨q, 0, none⟩) kks.length c) = w6 at *
            generalize L4.set (i * 5 + 4) (.slice (some ⟨q, 0, none⟩) kks.length c) = L6 at *
            clear hfz hcl
            have hc4 := HM6.out.has.cellAt (five_at HF6.out).2.2.2.2
            have hkz : (0 : Int) < (kks.length : Int) := by omega
            have HQ : Hid (w4.heap.size ≤ q) := Lib.hid hq
            have HQC := Lib.hid hqc
            have HCM := Lib.hid hcm'
            obtain ⟨n6, hn6⟩ : ∃ n6, n6 = kks.length := ⟨_, rfl⟩
            have HN6 := Lib.hid hn6
            rw [← hn6] at hc4 hkz hkpos
            have M7 := HM6.out.later ((Below.refl _ _).alloc (Nat.le_refl _) (.cells #[.slice (some ⟨q, 0, none⟩) n6 c] 24))
            have OT7 := Lib.hid (OT5.out.alloc (.cells #[.slice (some ⟨q, 0, none⟩) n6 c] 24))
            have HM7 := Lib.hid M7
            have HBW := Lib.hid HM6.out.cpy.below.size
            clear hq hqc hcm' hn6 M7
            go_wp2_with (at_builtin; refine wpList_append_src rfl _ _ 75 rfl w.heap.size 24 i0 (.slice none 0 0) 1 24 Tryd.underlying75 HI.out HZ0.out HZ1.out HZ2.out rfl (by omega) u4 S.length (S.map entV) rfl OT7.out (some ⟨w6.heap.size, 0, none⟩) 1 1 [.slice (some ⟨q, 0, none⟩) n6 c] rfl rfl (by simp) (fun ad had j u hj => by cases had; rw [Addr.add_mid, Nat.zero_add, cell_of_row _ _ _ _ _ _ (heap_alloc_new w6 _)]; simpa using hj) (fun u hu => by simp at hu; subst hu; rfl) (by unfold maxLen; omega) (by omega) (by have := HBW.out; simp; omega) ?_)
            intro v8 w8 hown8 hgr8
            have HM8 := Lib.hid (HM7.out.grown OT7.out hgr8)
            have HO8 := Lib.hid hown8
            have HR8 := Lib.hid hgr8
            clear hown8 hgr8
            go_wp2_with fail
            go_roundw
            case rel =>
              have hlt := HLT.out
              have hlk : i < ks.length := by rw [← HKL.out]; exact hlt
              have hrow1 := row_grown (row_later O1''.out ((Below.refl _ _).alloc (Nat.le_refl _) (.cells #[.slice (some ⟨q, 0, none⟩) n6 c] 24))) (by decide) OT7.out HR8.out
              have hrow3 := row_grown (row_later O3'.out ((Below.refl _ _).alloc (Nat.le_refl _) (.cells #[.slice (some ⟨q, 0, none⟩) n6 c] 24))) (by decide) OT7.out HR8.out
              have hp7 : Pend w (w6.alloc (.cells #[.slice (some ⟨q, 0, none⟩) n6 c] 24)) q kks := HP.out.but (q := w6.heap.size) (But.of_below ((Below.refl _ _).alloc (Nat.le_refl _) _)) (fun e => by obtain ⟨L', hL', _⟩ := HP.out; have := hL'.lt; omega)
              have hG4 := HG4.out
              have hq := HQ.out
              have hgb := HM6.out.gb
              have hbg := HM6.out.g1lt _ _ hgb
              have hb4 := (hG4 _ _ hgb).2
              have hbw := (hG4 _ _ hgb).1
              refine ⟨i + 1, by omega, by go_num, HM8.out.node HTI.out hlk ?_ (hp7.grown OT7.out HR8.out) ?_ (by omega) ?_ (by omega) HQC.out HCM.out hrow1 hrow3 HF6.out HMM.out (by omega) ?_ ?_ HO2.out⟩
              · have := HO8.out
                rw [HN6.out] at this
                exact this
              · cases hgq : G q with
                | none => rfl
                | some ks' => have := (hG4 _ _ hgq).2; omega
              · exact HKK0.out
              · have hz6 : bsize w6 q ≠ 0 := by have := HCAP.out; have := HQC.out; have := List.length_pos_iff.2 HKK0.out; omega
                have e7 := bsize_below ((Below.refl w6.heap.size w6).alloc (Nat.le_refl _) (.cells #[.slice (some ⟨q, 0, none⟩) n6 c] 24)) hz6
                rw [HCAP.out, ← e7]
                refine (bsize_grown hp7 OT7.out HR8.out (by rw [e7]; exact hz6)).symm
              · cases hgo : O2 q with
                | none => rfl
                | some s' => have := (HOF.out _ _ hgo).2.1; omega
            case measure =>
              have := HLT.out
              simp only [intOf]; omega
        · obtain rfl : i = kl := by omega
          have HS0 := Lib.hid hown
          have HS1 := Lib.hid (hcpy.finish hGb ⟨L, hL, fun j hj => hdone j (by rw [HKL.out]; exact hj)⟩)
          have HS2 := Lib.hid hroot
          have HS3 := Lib.hid hz
          have HS4 := Lib.hid hg1
          have HS5 := Lib.hid hsm
          have hpos : 0 < i := by
            have := HNE.out
            rw [HKL.out]
            exact List.length_pos_iff.2 this
          have hMu : muS S < gk := by omega
          clear hown hcpy hroot hGb hM hL hdone hold hz hg1 hsm
          go_wp2_with fail
          go_roundg (muS S)
          case rel => exact ⟨S, G, O, HS0.out, HS1.out, HS2.out, rfl, by have := HKN.out; omega, HS3.out, HS4.out, HS5.out⟩
          case measure => exact hMu
/-- Copy, as the edits take it: new rows, each serving one tree. -/
def MCopyP (w : World) (t : T) (e : Ending) (w' : World) : Prop := ∃ cs S, e = .returned (.agg cs.toArray) ∧ MT w' w.heap.size cs t S ∧ (∀ g ∈ S, w.heap.size ≤ g) ∧ Below w.heap.size w w'
theorem mcopy_any (n : Nat) (cs : List Value) (t : T) (w : World) (ht : IsT w n cs t) (hs : Small t) (hN : sizeN t ≤ 1000000) :
    Calls Tryd.prog 25 #[.agg cs.toArray] w (MCopyP w t) := by
  refine (copy_any n cs t w ht hs hN).mono ?_
  rintro e w' ⟨cs', G, O, s, he, hc, hb⟩
  obtain ⟨S, hS, hA⟩ := mt_closed hc.1 hc.2.2 _ s cs' t (Nat.le_refl _) hc.2.1
  exact ⟨cs', S, he, hS, fun g hg => (hA g hg).1, hb⟩

end Go.Proofs.YtbempgdndmchlaaDoor
