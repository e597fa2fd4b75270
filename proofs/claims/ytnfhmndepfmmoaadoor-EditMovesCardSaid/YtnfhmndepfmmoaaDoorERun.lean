/-
  A tree behind some edits: the program's start and Apply. Conditions: the tree and the edits may be read.
-/
import Derived.Test.YtnfhmndepfmmoaaDoorEApply
namespace Go.Proofs.YtnfhmndepfmmoaaDoor
open Go.RowKit
set_option linter.unusedVariables false

/-! As functions on trees. -/
def foldE : List EdD → T → Nat → Nat → ER
  | [], t, a, b => (0, t, a, b)
  | x :: r, t, a, b => if (applyE x t a b).1 ≠ 0 then applyE x t a b else foldE r (applyE x t a b).2.1 (applyE x t a b).2.2.1 (applyE x t a b).2.2.2
def runE (t : T) (l : List EdD) : ER := if (sizeT t).isSome then foldE l t (sizeN t) (bytesT t) else (3, t, 0, 0)

/-- A right tree, rightly counted. -/
def Exact (t : T) (a b : Nat) : Prop := Lim t 1 a b ∧ a = sizeN t ∧ b = bytesT t
theorem exact_of {t : T} (h : (sizeT t).isSome = true) : Exact t (sizeN t) (bytesT t) := by
  obtain ⟨⟨x, y⟩, hx⟩ := Option.isSome_iff_exists.1 h
  obtain ⟨h1, h2, h3, h4, rfl, rfl⟩ := (sizeT_iff t x y).1 hx
  exact ⟨⟨h1, by omega, by omega, Nat.le_refl _, h3, Nat.le_refl _, h4⟩, rfl, rfl⟩
theorem Exact.size {t : T} {a b : Nat} (h : Exact t a b) : (sizeT t).isSome = true := by rw [h.1.size]; rfl
theorem Exact.done {t : T} {a b : Nat} {r : ER} (h : Exact t a b) (hd : Done2 t 1 a b r) : Exact r.2.1 r.2.2.1 r.2.2.2 :=
  ⟨hd.lim h.1, by have h1 := hd.num; have h2 := h.2.1; omega, by have h1 := hd.byt; have h2 := h.2.2; omega⟩
theorem applyE_ok {x : EdD} {t : T} {a b : Nat} (h : Exact t a b) (h0 : (applyE x t a b).1 = 0) : Exact (applyE x t a b).2.1 (applyE x t a b).2.2.1 (applyE x t a b).2.2.2 := by
  unfold applyE at h0 ⊢
  by_cases hb : belN x.path.data.toList ≠ 0
  · simp only [if_pos hb] at h0; exact absurd h0 hb
  rw [if_neg hb] at h0 ⊢
  have hb0 : belN x.path.data.toList = 0 := by simpa using hb
  have hn := nmE_names hb0
  by_cases k1 : x.kind = 1
  · rw [if_pos k1] at h0 ⊢
    exact h.done (chg_done .mk (fun k hk => by cases hk) _ hn t 1 a b h.1 h0)
  rw [if_neg k1] at h0 ⊢
  by_cases k2 : x.kind = 2
  · rw [if_pos k2] at h0 ⊢
    by_cases hs : (sizeT x.tree).isSome = true
    · rw [if_pos hs] at h0 ⊢
      exact h.done (chg_done (.put x.tree) (fun k hk => by cases hk; exact (sizeT_get hs).2.1) _ hn t 1 a b h.1 h0)
    · simp only [if_neg hs] at h0; cases h0
  rw [if_neg k2] at h0 ⊢
  by_cases k3 : x.kind = 3
  · rw [if_pos k3] at h0 ⊢
    by_cases hs : belN x.src.data.toList ≠ 0
    · simp only [if_pos hs] at h0; exact absurd h0 hs
    rw [if_neg hs] at h0 ⊢
    have hs0 : belN x.src.data.toList = 0 := by simpa using hs
    have hns := nmE_names hs0
    unfold moveE at h0 ⊢
    by_cases hd : (chgE .drop (nmE x.src.data.toList) 1 t a b).1 ≠ 0
    · simp only [if_pos hd] at h0; exact absurd h0 hd
    rw [if_neg hd] at h0 ⊢
    have hd0 : (chgE .drop (nmE x.src.data.toList) 1 t a b).1 = 0 := by simpa using hd
    by_cases hw : (withB (nmE x.src.data.toList) (nmE x.path.data.toList) || withB (nmE x.path.data.toList) (nmE x.src.data.toList)) = true
    · simp only [if_pos hw] at h0; cases h0
    rw [if_neg hw] at h0 ⊢
    have h1 := h.done (chg_done .drop (fun k hk => by cases hk) _ hns t 1 a b h.1 hd0)
    obtain ⟨dep', hg⟩ := get_lim _ t 1 a b h.1 hd0
    exact h1.done (chg_done (.put (getE (nmE x.src.data.toList) t)) (fun k hk => by cases hk; exact hg.1) _ hn _ 1 _ _ h1.1 h0)
  rw [if_neg k3] at h0 ⊢
  by_cases k4 : x.kind = 4
  · rw [if_pos k4] at h0 ⊢
    exact h.done (chg_done .drop (fun k hk => by cases hk) _ hn t 1 a b h.1 h0)
  · simp only [if_neg k4] at h0; cases h0
theorem foldE_ok : ∀ (l : List EdD) {t : T} {a b : Nat}, Exact t a b → (foldE l t a b).1 = 0 → Exact (foldE l t a b).2.1 (foldE l t a b).2.2.1 (foldE l t a b).2.2.2
  | [], t, a, b, h, _ => h
  | x :: r, t, a, b, h, h0 => by
    rw [foldE] at h0 ⊢
    by_cases h1 : (applyE x t a b).1 ≠ 0
    · simp only [if_pos h1] at h0; exact absurd h0 h1
    rw [if_neg h1] at h0 ⊢
    exact foldE_ok r (applyE_ok h (by simpa using h1)) h0
theorem foldE_append : ∀ (l m : List EdD) (t : T) (a b : Nat), foldE (l ++ m) t a b = if (foldE l t a b).1 ≠ 0 then foldE l t a b else foldE m (foldE l t a b).2.1 (foldE l t a b).2.2.1 (foldE l t a b).2.2.2
  | [], m, t, a, b => by simp [foldE]
  | x :: r, m, t, a, b => by
    rw [List.cons_append, foldE, foldE]
    by_cases h1 : (applyE x t a b).1 ≠ 0
    · rw [if_pos h1, if_pos h1, if_pos h1]
    · rw [if_neg h1, if_neg h1]
      exact foldE_append r m _ _ _

/-! Edits in memory. -/
instance : Inhabited EdD := ⟨⟨0, ⟨#[]⟩, ⟨#[]⟩, default⟩⟩
theorem IsX.later {w w' : World} {m : Nat} {cs : List Value} {x : EdD} (h : IsX w m cs x) (hb : Below w.heap.size w w') : IsX w' m cs x := by
  obtain ⟨ct, h1, h2⟩ := h
  exact ⟨ct, h1, IsT.later hb _ _ _ h2⟩
theorem IsX.eight {w : World} {m : Nat} {cs : List Value} {x : EdD} (h : IsX w m cs x) : cs.length = 8 ∧ cs.toArray.all (·.oneCell') = true := by
  obtain ⟨ct, rfl, h2⟩ := h
  have h5 := isT_five h2
  have h1 := isT_one h2
  refine ⟨by simp [h5], ?_⟩
  rw [Array.all_eq_true_iff_forall_mem] at h1 ⊢
  intro u hu
  have hu' : u ∈ [Value.int .u8 (x.kind.toNat : Int), .string x.path, .string x.src] ++ ct := by simpa using hu
  rcases List.mem_append.1 hu' with h | h
  · simp only [List.mem_cons, List.not_mem_nil, or_false] at h
    rcases h with rfl | rfl | rfl <;> rfl
  · exact h1 u (by simpa using h)
/-- A slice of edits. -/
structure IsXs (w : World) (m : Nat) (a : Option Addr) (n c : Nat) (l : List EdD) : Prop where
  length : l.length = n
  at_ : n = 0 ∨ ∃ b off, a = some ⟨b, off, none⟩ ∧ b < w.heap.size ∧ ∀ i, i < n → ∃ cs, IsX w m cs (l.getD i default) ∧ w.rangeAt b (off + i * 8) cs
  nil : a = none → n = 0 ∧ c = 0
  room : n ≤ c ∧ c ≤ maxLen
theorem range_later {w w' : World} {B b o : Nat} {cs : List Value} (h : w.rangeAt b o cs) (hb : Below B w w') (hlt : b < B) : w'.rangeAt b o cs := fun j v hv => (hb.cell (p := ⟨b, o + j, none⟩) hlt).trans (h j v hv)
theorem IsXs.later {w w' : World} {m : Nat} {a : Option Addr} {n c : Nat} {l : List EdD} (h : IsXs w m a n c l) (hb : Below w.heap.size w w') : IsXs w' m a n c l := by
  refine ⟨h.length, ?_, h.nil, h.room⟩
  rcases h.at_ with h0 | ⟨b, off, rfl, hlt, hc⟩
  · exact .inl h0
  · refine .inr ⟨b, off, rfl, Nat.lt_of_lt_of_le hlt hb.size, fun i hi => ?_⟩
    obtain ⟨cs, h1, h2⟩ := hc i hi
    exact ⟨cs, h1.later hb, range_later h2 hb hlt⟩

/-- A tree ahead of all edits. -/
def StartP (t : T) (w : World) (e : Ending) (w' : World) : Prop := Below w.heap.size w w' ∧
  (((sizeT t).isSome = true ∧ ∃ p S, e = .returned (.tuple #[.pointer (some ⟨p, 0, none⟩), .int .i64 0]) ∧ WK w' w.heap.size p t (sizeN t) (bytesT t) S ∧ w.heap.size ≤ p ∧ (∀ g ∈ S, w.heap.size ≤ g)) ∨
    ((sizeT t).isSome = false ∧ e = .returned (.tuple #[.pointer none, .int .i64 3])))

set_option maxRecDepth 100000 in
set_option maxHeartbeats 8000000 in
theorem start_any (n : Nat) (cs : List Value) (t : T) (w : World) (ht : IsT w n cs t) : Calls Tryd.prog 18 #[.agg cs.toArray] w (StartP t w) := by
  have hI := Lib.hid (infoL (isT_five ht))
  obtain ⟨w1, hw1⟩ : ∃ w1, w1 = w.alloc (.cells cs.toArray 26) := ⟨_, rfl⟩
  have b1 : Below w.heap.size w w1 := by rw [hw1]; exact (Below.refl _ _).alloc (Nat.le_refl _) _
  have g1 : Has w1 w.heap.size cs 26 := by rw [hw1]; exact Has.new w cs _
  have HT := Lib.hid ht
  have HSZ := Lib.hid (size_any n cs t w1 (IsT.later b1 _ _ _ ht))
  have HW1 := Lib.hid hw1
  have B1 := Lib.hid b1
  have G1 := Lib.hid g1
  have G1r := Lib.hid (show w1.heap[w.heap.size]? = some (.cells cs.toArray 26 (0, 0)) from g1)
  clear ht hw1 b1 g1
  rcases hs : (sizeT t).isSome with _ | _
  · have hsv : sizeV t = .tuple #[.int .i64 0, .int .i64 0, .int .i64 3] := by
      unfold sizeV
      rw [Option.isSome_eq_false_iff, Option.isNone_iff_eq_none] at hs
      rw [hs]
    rw [hsv] at HSZ
    have HS := Lib.hid hs
    clear hs hsv
    go_enter Tryd.func18, Tryd.ntmps18
    go_upto_region 1 with fail
    rw [← HW1.out]
    go_wp2_with (refine wpList_load_row rfl 26 _ rfl w.heap.size rfl 26 cs.toArray (0, 0) _ G1r.out Tryd.underlying26 rfl hI.out ?_)
    refine HSZ.out.mono ?_
    rintro e w2 ⟨rfl, hb2⟩
    have B2 := Lib.hid (B1.out.trans (hb2.mono B1.out.size))
    clear hb2
    go_wp2_with fail
    go_ret2
    exact ⟨B2.out, .inr ⟨HS.out, rfl⟩⟩
  · obtain ⟨s1, s2, s3, s4⟩ := sizeT_get hs
    have hsv : sizeV t = .tuple #[.int .i64 (sizeN t : Int), .int .i64 (bytesT t : Int), .int .i64 0] := by
      unfold sizeV
      rw [s1]
    rw [hsv] at HSZ
    have HS := Lib.hid hs
    have S3 := Lib.hid s3
    have S4 := Lib.hid s4
    obtain ⟨A, hA⟩ : ∃ A, A = sizeN t := ⟨_, rfl⟩
    obtain ⟨C, hC⟩ : ∃ C, C = bytesT t := ⟨_, rfl⟩
    rw [← hA, ← hC] at HSZ
    have HA := Lib.hid hA
    have HC := Lib.hid hC
    clear hs hsv s1 s2 s3 s4 hA hC
    go_enter Tryd.func18, Tryd.ntmps18
    go_upto_region 1 with fail
    rw [← HW1.out]
    go_wp2_with (refine wpList_load_row rfl 26 _ rfl w.heap.size rfl 26 cs.toArray (0, 0) _ G1r.out Tryd.underlying26 rfl hI.out ?_)
    refine HSZ.out.mono ?_
    rintro e w2 ⟨rfl, hb2⟩
    have B2 := Lib.hid (B1.out.trans (hb2.mono B1.out.size))
    have G2r : Hid (w2.heap[w.heap.size]? = some (.cells cs.toArray 26 (0, 0))) := Lib.hid (has_fr G1.out (Fr.of_below (S := []) hb2) (by simp))
    have HCP := Lib.hid (mcopy_any n cs t w2 (IsT.later B2.out _ _ _ HT.out) S3.out (by have := S4.out; omega))
    clear hb2
    go_wp2_with (refine wpList_load_row rfl 26 _ rfl w.heap.size rfl 26 cs.toArray (0, 0) _ G2r.out Tryd.underlying26 rfl hI.out ?_)
    refine HCP.out.mono ?_
    rintro e w3 ⟨gcs, Sg, rfl, hmt, hSg, hb3⟩
    obtain ⟨k0, x0, a1, n1, m1, a2, n2, m2, a3, n3, m3, hsh⟩ := mt_shape hmt
    have HMT := Lib.hid hmt
    have HSG := Lib.hid hSg
    have B3 := Lib.hid (B2.out.trans (hb3.mono B2.out.size))
    have B2S : Hid (w.heap.size ≤ w2.heap.size) := Lib.hid B2.out.size
    have HSH := Lib.hid hsh
    rw [hsh]
    clear hmt hSg hb3 hsh
    go_wp2_with fail
    go_ret2
    refine ⟨B3.out.alloc B3.out.size _, .inl ⟨HS.out, w3.heap.size, Sg, rfl, ?_, B3.out.size, fun g hg => Nat.le_trans B2S.out (HSG.out g hg)⟩⟩
    rw [← HA.out, ← HC.out]
    have hnew : Has (w3.alloc (.cells #[.int .u8 (k0.toNat : Int), .bool x0, .slice a1 n1 m1, .slice a2 n2 m2, .slice a3 n3 m3, .int .i64 (A : Int), .int .i64 (C : Int)] 52)) w3.heap.size (gcs ++ [.int .i64 (A : Int), .int .i64 (C : Int)]) 52 := by
      rw [HSH.out]
      exact Has.new w3 [.int .u8 (k0.toNat : Int), .bool x0, .slice a1 n1 m1, .slice a2 n2 m2, .slice a3 n3 m3, .int .i64 (A : Int), .int .i64 (C : Int)] _
    have hng : w3.heap.size ∉ Sg := fun hm => by have := HMT.out.lt hm; omega
    have hmt4 := (HMT.out.later (w' := w3.alloc (.cells #[.int .u8 (k0.toNat : Int), .bool x0, .slice a1 n1 m1, .slice a2 n2 m2, .slice a3 n3 m3, .int .i64 (A : Int), .int .i64 (C : Int)] 52)) ((Below.refl _ _).alloc (Nat.le_refl _) _)).low B2S.out
    refine ⟨gcs, ⟨hnew, fun j hj => ?_, hmt4, hng, hng, hnew, HMT.out.five, .inl ⟨rfl, rfl, rfl, rfl, rfl⟩⟩⟩
    rw [Nat.zero_add, List.getElem?_append_left (by rw [HMT.out.five]; exact hj)]

end Go.Proofs.YtnfhmndepfmmoaaDoor
