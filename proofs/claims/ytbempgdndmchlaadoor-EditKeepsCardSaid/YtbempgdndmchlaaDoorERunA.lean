/-
  A tree behind some edits: the program's start and Apply. Conditions: the tree and the edits may be read.
-/
import Derived.Test.YtbempgdndmchlaaDoorEApply
namespace Go.Proofs.YtbempgdndmchlaaDoor
open Go.RowKit
set_option linter.unusedVariables false

/-! As functions on trees. -/
def foldE : List EdD → T → Nat → Nat → ER
  | [], t, a, b => (0, t, a, b)
  | x :: r, t, a, b => if (applyE x t a b).1 ≠ 0 then applyE x t a b else foldE r (applyE x t a b).2.1 (applyE x t a b).2.2.1 (applyE x t a b).2.2.2
def runE (t : T) (l : List EdD) : ER := if (sizeT t).isSome then foldE l t (sizeN t) (bytesT t) else (3, t, 0, 0)

/-- A right tree, rightly counted. -/
def Exact (t : T) (a b : Nat) : Prop := Lim t 1 a b ∧ a = sizeN t ∧ b = bytesT t
theorem exact_of {t : T} (h : (sizeT t).isSome = true) : Exact t (sizeN t) (bytesT t) := by
  obtain ⟨⟨x, y⟩, hx⟩ := Option.isSome_iff_exists.1 h
  obtain ⟨h1, h2, h3, h4, rfl, rfl⟩ := (sizeT_iff t x y).1 hx
  exact ⟨⟨h1, by omega, by omega, Nat.le_refl _, h3, Nat.le_refl _, h4⟩, rfl, rfl⟩
theorem Exact.size {t : T} {a b : Nat} (h : Exact t a b) : (sizeT t).isSome = true := by rw [h.1.size]; rfl
theorem Exact.done {t : T} {a b : Nat} {r : ER} (h : Exact t a b) (hd : Done2 t 1 a b r) : Exact r.2.1 r.2.2.1 r.2.2.2 :=
  ⟨hd.lim h.1, by have h1 := hd.num; have h2 := h.2.1; omega, by have h1 := hd.byt; have h2 := h.2.2; omega⟩
theorem applyE_ok {x : EdD} {t : T} {a b : Nat} (h : Exact t a b) (h0 : (applyE x t a b).1 = 0) : Exact (applyE x t a b).2.1 (applyE x t a b).2.2.1 (applyE x t a b).2.2.2 := by
  unfold applyE at h0 ⊢
  by_cases hb : belN x.path.data.toList ≠ 0
  · simp only [if_pos hb] at h0; exact absurd h0 hb
  rw [if_neg hb] at h0 ⊢
  have hb0 : belN x.path.data.toList = 0 := by simpa using hb
  have hn := nmE_names hb0
  by_cases k1 : x.kind = 1
  · rw [if_pos k1] at h0 ⊢
    exact h.done (chg_done .mk (fun k hk => by cases hk) _ hn t 1 a b h.1 h0)
  rw [if_neg k1] at h0 ⊢
  by_cases k2 : x.kind = 2
  · rw [if_pos k2] at h0 ⊢
    by_cases hs : (sizeT x.tree).isSome = true
    · rw [if_pos hs] at h0 ⊢
      exact h.done (chg_done (.put x.tree) (fun k hk => by cases hk; exact (sizeT_get hs).2.1) _ hn t 1 a b h.1 h0)
    · simp only [if_neg hs] at h0; cases h0
  rw [if_neg k2] at h0 ⊢
  by_cases k3 : x.kind = 3
  · rw [if_pos k3] at h0 ⊢
    by_cases hs : belN x.src.data.toList ≠ 0
    · simp only [if_pos hs] at h0; exact absurd h0 hs
    rw [if_neg hs] at h0 ⊢
    have hs0 : belN x.src.data.toList = 0 := by simpa using hs
    have hns := nmE_names hs0
    unfold moveE at h0 ⊢
    by_cases hd : (chgE .drop (nmE x.src.data.toList) 1 t a b).1 ≠ 0
    · simp only [if_pos hd] at h0; exact absurd h0 hd
    rw [if_neg hd] at h0 ⊢
    have hd0 : (chgE .drop (nmE x.src.data.toList) 1 t a b).1 = 0 := by simpa using hd
    by_cases hw : (withB (nmE x.src.data.toList) (nmE x.path.data.toList) || withB (nmE x.path.data.toList) (nmE x.src.data.toList)) = true
    · simp only [if_pos hw] at h0; cases h0
    rw [if_neg hw] at h0 ⊢
    have h1 := h.done (chg_done .drop (fun k hk => by cases hk) _ hns t 1 a b h.1 hd0)
    obtain ⟨dep', hg⟩ := get_lim _ t 1 a b h.1 hd0
    exact h1.done (chg_done (.put (getE (nmE x.src.data.toList) t)) (fun k hk => by cases hk; exact hg.1) _ hn _ 1 _ _ h1.1 h0)
  rw [if_neg k3] at h0 ⊢
  by_cases k4 : x.kind = 4
  · rw [if_pos k4] at h0 ⊢
    exact h.done (chg_done .drop (fun k hk => by cases hk) _ hn t 1 a b h.1 h0)
  · simp only [if_neg k4] at h0; cases h0
theorem foldE_ok : ∀ (l : List EdD) {t : T} {a b : Nat}, Exact t a b → (foldE l t a b).1 = 0 → Exact (foldE l t a b).2.1 (foldE l t a b).2.2.1 (foldE l t a b).2.2.2
  | [], t, a, b, h, _ => h
  | x :: r, t, a, b, h, h0 => by
    rw [foldE] at h0 ⊢
    by_cases h1 : (applyE x t a b).1 ≠ 0
    · simp only [if_pos h1] at h0; exact absurd h0 h1
    rw [if_neg h1] at h0 ⊢
    exact foldE_ok r (applyE_ok h (by simpa using h1)) h0
theorem foldE_append : ∀ (l m : List EdD) (t : T) (a b : Nat), foldE (l ++ m) t a b = if (foldE l t a b).1 ≠ 0 then foldE l t a b else foldE m (foldE l t a b).2.1 (foldE l t a b).2.2.1 (foldE l t a b).2.2.2
  | [], m, t, a, b => by simp [foldE]
  | x :: r, m, t, a, b => by
    rw [List.cons_append, foldE, foldE]
    by_cases h1 : (applyE x t a b).1 ≠ 0
    · rw [if_pos h1, if_pos h1, if_pos h1]
    · rw [if_neg h1, if_neg h1]
      exact foldE_append r m _ _ _

/-! Edits in memory. -/
instance : Inhabited EdD := ⟨⟨0, ⟨#[]⟩, ⟨#[]⟩, default⟩⟩
theorem IsX.later {w w' : World} {m : Nat} {cs : List Value} {x : EdD} (h : IsX w m cs x) (hb : Below w.heap.size w w') : IsX w' m cs x := by
  obtain ⟨ct, h1, h2⟩ := h
  exact ⟨ct, h1, IsT.later hb _ _ _ h2⟩
theorem IsX.eight {w : World} {m : Nat} {cs : List Value} {x : EdD} (h : IsX w m cs x) : cs.length = 8 ∧ cs.toArray.all (·.oneCell') = true := by
  obtain ⟨ct, rfl, h2⟩ := h
  have h5 := isT_five h2
  have h1 := isT_one h2
  refine ⟨by simp [h5], ?_⟩
  rw [Array.all_eq_true_iff_forall_mem] at h1 ⊢
  intro u hu
  have hu' : u ∈ [Value.int .u8 (x.kind.toNat : Int), .string x.path, .string x.src] ++ ct := by simpa using hu
  rcases List.mem_append.1 hu' with h | h
  · simp only [List.mem_cons, List.not_mem_nil, or_false] at h
    rcases h with rfl | rfl | rfl <;> rfl
  · exact h1 u (by simpa using h)
/-- A slice of edits. -/
structure IsXs (w : World) (m : Nat) (a : Option Addr) (n c : Nat) (l : List EdD) : Prop where
  length : l.length = n
  at_ : n = 0 ∨ ∃ b off, a = some ⟨b, off, none⟩ ∧ b < w.heap.size ∧ ∀ i, i < n → ∃ cs, IsX w m cs (l.getD i default) ∧ w.rangeAt b (off + i * 8) cs
  nil : a = none → n = 0 ∧ c = 0
  room : n ≤ c ∧ c ≤ maxLen
theorem range_later {w w' : World} {B b o : Nat} {cs : List Value} (h : w.rangeAt b o cs) (hb : Below B w w') (hlt : b < B) : w'.rangeAt b o cs := fun j v hv => (hb.cell (p := ⟨b, o + j, none⟩) hlt).trans (h j v hv)
theorem IsXs.later {w w' : World} {m : Nat} {a : Option Addr} {n c : Nat} {l : List EdD} (h : IsXs w m a n c l) (hb : Below w.heap.size w w') : IsXs w' m a n c l := by
  refine ⟨h.length, ?_, h.nil, h.room⟩
  rcases h.at_ with h0 | ⟨b, off, rfl, hlt, hc⟩
  · exact .inl h0
  · refine .inr ⟨b, off, rfl, Nat.lt_of_lt_of_le hlt hb.size, fun i hi => ?_⟩
    obtain ⟨cs, h1, h2⟩ := hc i hi
    exact ⟨cs, h1.later hb, range_later h2 hb hlt⟩

/-- A tree ahead of all edits. -/
def StartP (t : T) (w : World) (e : Ending) (w' : World) : Prop := Below w.heap.size w w' ∧
  (((sizeT t).isSome = true ∧ ∃ p S, e = .returned (.tuple #[.pointer (some ⟨p, 0, none⟩), .int .i64 0]) ∧ WK w' w.heap.size p t (sizeN t) (bytesT t) S ∧ w.heap.size ≤ p ∧ (∀ g ∈ S, w.heap.size ≤ g)) ∨
    ((sizeT t).isSome = false ∧ e = .returned (.tuple #[.pointer none, .int .i64 3])))

set_option maxRecDepth 100000 in
set_option maxHeartbeats 8000000 in
theorem start_any (n : Nat) (cs : List Value) (t : T) (w : World) (ht : IsT w n cs t) : Calls Tryd.prog 18 #[.agg cs.toArray] w (StartP t w) := by
  have hI := Lib.hid (infoL (isT_five ht))
  obtain ⟨w1, hw1⟩ : ∃ w1, w1 = w.alloc (.cells cs.toArray 26) := ⟨_, rfl⟩
  have b1 : Below w.heap.size w w1 := by rw [hw1]; exact (Below.refl _ _).alloc (Nat.le_refl _) _
  have g1 : Has w1 w.heap.size cs 26 := by rw [hw1]; exact Has.new w cs _
  have HT := Lib.hid ht
  have HSZ := Lib.hid (size_any n cs t w1 (IsT.later b1 _ _ _ ht))
  have HW1 := Lib.hid hw1
  have B1 := Lib.hid b1
  have G1 := Lib.hid g1
  have G1r := Lib.hid (show w1.heap[w.heap.size]? = some (.cells cs.toArray 26 (0, 0)) from g1)
  clear ht hw1 b1 g1
  rcases hs : (sizeT t).isSome with _ | _
  · have hsv : sizeV t = .tuple #[.int .i64 0, .int .i64 0, .int .i64 3] := by
      unfold sizeV
      rw [Option.isSome_eq_false_iff, Option.isNone_iff_eq_none] at hs
      rw [hs]
    rw [hsv] at HSZ
    have HS := Lib.hid hs
    clear hs hsv
    go_enter Tryd.func18, Tryd.ntmps18
    go_upto_region 1 with fail
    rw [← HW1.out]
    go_wp2_with (refine wpList_load_row rfl 26 _ rfl w.heap.size rfl 26 cs.toArray (0, 0) _ G1r.out Tryd.underlying26 rfl hI.out ?_)
    refine HSZ.out.mono ?_
    rintro e w2 ⟨rfl, hb2⟩
    have B2 := Lib.hid (B1.out.trans (hb2.mono B1.out.size))
    clear hb2
    go_wp2_with fail
    go_ret2
    exact ⟨B2.out, .inr ⟨HS.out, rfl⟩⟩
  · obtain ⟨s1, s2, s3, s4⟩ := sizeT_get hs
    have hsv : sizeV t = .tuple #[.int .i64 (sizeN t : Int), .int .i64 (bytesT t : Int), .int .i64 0] := by
      unfold sizeV
      rw [s1]
    rw [hsv] at HSZ
    have HS := Lib.hid hs
    have S3 := Lib.hid s3
    have S4 := Lib.hid s4
    obtain ⟨A, hA⟩ : ∃ A, A = sizeN t := ⟨_, rfl⟩
    obtain ⟨C, hC⟩ : ∃ C, C = bytesT t := ⟨_, rfl⟩
    rw [← hA, ← hC] at HSZ
    have HA := Lib.hid hA
    have HC := Lib.hid hC
    clear hs hsv s1 s2 s3 s4 hA hC
    go_enter Tryd.func18, Tryd.ntmps18
    go_upto_region 1 with fail
    rw [← HW1.out]
    go_wp2_with (refine wpList_load_row rfl 26 _ rfl w.heap.size rfl 26 cs.toArray (0, 0) _ G1r.out Tryd.underlying26 rfl hI.out ?_)
    refine HSZ.out.mono ?_
    rintro e w2 ⟨rfl, hb2⟩
    have B2 := Lib.hid (B1.out.trans (hb2.mono B1.out.size))
    have G2r : Hid (w2.heap[w.heap.size]? = some (.cells cs.toArray 26 (0, 0))) := Lib.hid (has_fr G1.out (Fr.of_below (S := []) hb2) (by simp))
    have HCP := Lib.hid (mcopy_any n cs t w2 (IsT.later B2.out _ _ _ HT.out) S3.out (by have := S4.out; omega))
    clear hb2
    go_wp2_with (refine wpList_load_row rfl 26 _ rfl w.heap.size rfl 26 cs.toArray (0, 0) _ G2r.out Tryd.underlying26 rfl hI.out ?_)
    refine HCP.out.mono ?_
    rintro e w3 ⟨gcs, Sg, rfl, hmt, hSg, hb3⟩
    obtain ⟨k0, x0, a1, n1, m1, a2, n2, m2, a3, n3, m3, hsh⟩ := mt_shape hmt
    have HMT := Lib.hid hmt
    have HSG := Lib.hid hSg
    have B3 := Lib.hid (B2.out.trans (hb3.mono B2.out.size))
    have B2S : Hid (w.heap.size ≤ w2.heap.size) := Lib.hid B2.out.size
    have HSH := Lib.hid hsh
    rw [hsh]
    clear hmt hSg hb3 hsh
    go_wp2_with fail
    go_ret2
    refine ⟨B3.out.alloc B3.out.size _, .inl ⟨HS.out, w3.heap.size, Sg, rfl, ?_, B3.out.size, fun g hg => Nat.le_trans B2S.out (HSG.out g hg)⟩⟩
    rw [← HA.out, ← HC.out]
    have hnew : Has (w3.alloc (.cells #[.int .u8 (k0.toNat : Int), .bool x0, .slice a1 n1 m1, .slice a2 n2 m2, .slice a3 n3 m3, .int .i64 (A : Int), .int .i64 (C : Int)] 52)) w3.heap.size (gcs ++ [.int .i64 (A : Int), .int .i64 (C : Int)]) 52 := by
      rw [HSH.out]
      exact Has.new w3 [.int .u8 (k0.toNat : Int), .bool x0, .slice a1 n1 m1, .slice a2 n2 m2, .slice a3 n3 m3, .int .i64 (A : Int), .int .i64 (C : Int)] _
    have hng : w3.heap.size ∉ Sg := fun hm => by have := HMT.out.lt hm; omega
    have hmt4 := (HMT.out.later (w' := w3.alloc (.cells #[.int .u8 (k0.toNat : Int), .bool x0, .slice a1 n1 m1, .slice a2 n2 m2, .slice a3 n3 m3, .int .i64 (A : Int), .int .i64 (C : Int)] 52)) ((Below.refl _ _).alloc (Nat.le_refl _) _)).low B2S.out
    refine ⟨gcs, ⟨hnew, fun j hj => ?_, hmt4, hng, hng, hnew, HMT.out.five, .inl ⟨rfl, rfl, rfl, rfl, rfl⟩⟩⟩
    rw [Nat.zero_add, List.getElem?_append_left (by rw [HMT.out.five]; exact hj)]

end Go.Proofs.YtbempgdndmchlaaDoor

namespace Go.Proofs.YtbempgdndmchlaaDoor
open Go.RowKit
set_option linter.unusedVariables false

/-- What Apply tells. -/
def RunP (t : T) (l : List EdD) (w : World) (e : Ending) (w' : World) : Prop :=
  ∃ out, e = .returned (.tuple #[.agg out.toArray, .int .i64 ((runE t l).1 : Int)]) ∧ out.length = 5 ∧ out.toArray.all (·.oneCell') = true ∧ Below w.heap.size w w' ∧ ((runE t l).1 = 0 → ∃ S, MT w' w.heap.size out (runE t l).2.1 S) ∧ ((runE t l).1 ≠ 0 → out = zK)

theorem run_bad {t : T} {l : List EdD} (h : (sizeT t).isSome = false) : runE t l = (3, t, 0, 0) := by unfold runE; rw [h]; rfl
theorem run_good {t : T} {l : List EdD} (h : (sizeT t).isSome = true) : runE t l = foldE l t (sizeN t) (bytesT t) := by unfold runE; rw [if_pos h]

set_option maxRecDepth 100000 in
set_option maxHeartbeats 20000000 in
theorem applyA_any (n : Nat) (cs : List Value) (t : T) (w : World) (ht : IsT w n cs t) (m : Nat) (a : Option Addr) (k c : Nat) (l : List EdD) (hl : IsXs w m a k c l) (hm : MaxW w) (hmx : 0 < w.heap.size) :
    Calls Tryd.prog 11 #[.agg cs.toArray, .slice a k c] w (RunP t l w) := by
  have hI := Lib.hid (infoL (isT_five ht))
  obtain ⟨w0, hw0⟩ : ∃ w0, w0 = w.alloc (.cells cs.toArray 26) := ⟨_, rfl⟩
  have s0 : w0.heap.size = w.heap.size + 1 := by rw [hw0]; simp
  obtain ⟨w1, hw1⟩ : ∃ w1, w1 = w0.alloc (.cells #[.int .u8 0, .bool false, .slice none 0 0, .slice none 0 0, .slice none 0 0] 26) := ⟨_, rfl⟩
  have s1 : w1.heap.size = w.heap.size + 2 := by rw [hw1]; simp [s0]
  have b1 : Below w.heap.size w w1 := by rw [hw1, hw0]; exact ((Below.refl _ _).alloc (Nat.le_refl _) _).alloc (by simp) _
  have g1 : Has w1 w.heap.size cs 26 := by rw [hw1, hw0]; exact (Has.new w cs _).alloc _
  have r1 : Has w1 (w.heap.size + 1) zK 26 := by rw [hw1, ← s0]; exact Has.new w0 zK _
  have HW1 : Hid (w1 = (w.alloc (.cells cs.toArray 26)).alloc (.cells #[.int .u8 0, .bool false, .slice none 0 0, .slice none 0 0, .slice none 0 0] 26)) := Lib.hid (by rw [hw1, hw0])
  have HST := Lib.hid (start_any n cs t w1 (IsT.later b1 _ _ _ ht))
  have HT := Lib.hid ht
  have HL := Lib.hid hl
  have HM := Lib.hid hm
  have HMX := Lib.hid hmx
  have S1 := Lib.hid s1
  have B1 := Lib.hid b1
  have R1 := Lib.hid r1
  have G1r := Lib.hid (show w1.heap[w.heap.size]? = some (.cells cs.toArray 26 (0, 0)) from g1)
  have hZ5 : Hid ((Tryd.prog.info? 26).map (·.size) = some zK.toArray.size) := Lib.hid (by kernel_rfl)
  have hZ1 : Hid (zK.toArray.all (·.oneCell') = true) := Lib.hid (by decide +kernel)
  obtain ⟨V, hV⟩ : ∃ V, V = runE t l := ⟨_, rfl⟩
  have hRP : Hid (∀ e w', (∃ out, e = .returned (.tuple #[.agg out.toArray, .int .i64 (V.1 : Int)]) ∧ out.length = 5 ∧ out.toArray.all (·.oneCell') = true ∧ Below w.heap.size w w' ∧ (V.1 = 0 → ∃ S, MT w' w.heap.size out V.2.1 S) ∧ (V.1 ≠ 0 → out = zK)) → RunP t l w e w') := Lib.hid (by rw [hV]; exact fun e w' h => h)
  have HV := Lib.hid hV
  clear ht hl hm hmx hw0 hw1 s0 s1 b1 g1 r1 hV
  go_enter Tryd.func11, Tryd.ntmps11
  go_upto_region 1 with fail
  rw [← HW1.out]
  go_wp2_with (refine wpList_load_row rfl 26 _ rfl w.heap.size rfl 26 cs.toArray (0, 0) _ G1r.out Tryd.underlying26 rfl hI.out ?_)
  refine HST.out.mono ?_
  rintro e w2 ⟨hb2, h2⟩
  have B2 := Lib.hid (hb2.mono (Nat.le_of_eq S1.out.symm))
  have R2 : Hid (Has w2 (w.heap.size + 1) zK 26) := Lib.hid (has_fr R1.out (Fr.of_below (S := []) hb2) (by simp))
  have BW2 : Hid (Below w.heap.size w w2) := Lib.hid (B1.out.trans (hb2.mono B1.out.size))
  clear hb2
  rcases h2 with ⟨hs, p, S, rfl, hwk, hp, hS⟩ | ⟨hs, rfl⟩
  · have HVG := Lib.hid (HV.out.trans (run_good hs))
    have HEX := Lib.hid (exact_of hs)
    have HWK := Lib.hid hwk
    have HP := Lib.hid hp
    have HSS := Lib.hid hS
    clear hs hwk hp hS
    go_wp2_with fail
    obtain ⟨NB, hNB⟩ : ∃ NB, NB = w.heap.size + 2 := ⟨_, rfl⟩
    have HNB := Lib.hid hNB
    clear hNB
    have HSZ2 : Hid (NB ≤ w2.heap.size) := Lib.hid (by have := R2.out.lt; have := HWK.out.lt.1; have := HP.out; have := S1.out; have := HNB.out; omega)
    go_loopw [22] (fun vi wr => ∃ (i : Nat), i ≤ k ∧ vi = .int .i64 i ∧ Below NB w2 wr ∧ ∃ t' a' b' S', Exact t' a' b' ∧ WK wr NB p t' a' b' S' ∧ (∀ g ∈ S', NB ≤ g) ∧ foldE l t (sizeN t) (bytesT t) = foldE (l.drop i) t' a' b') (fun vi _ => k - (intOf vi).toNat)
    case atStart => exact ⟨0, Nat.zero_le _, rfl, Below.refl _ _, t, _, _, S, HEX.out, by have := HWK.out; rw [S1.out] at this; rw [HNB.out]; exact this, fun g hg => by have := HSS.out g hg; rw [S1.out] at this; rw [HNB.out]; exact this, rfl⟩
    case round =>
      obtain ⟨i, hi, rfl, hbel, t', a', b', S', hex, hwk, hS', hfold⟩ := hrel
      have HBE := Lib.hid hbel
      have HEX' := Lib.hid hex
      have HWK' := Lib.hid hwk
      have HSS' := Lib.hid hS'
      have HFO := Lib.hid hfold
      have HBW : Hid (Below w.heap.size w wr) := Lib.hid (BW2.out.trans (hbel.mono (by have := HNB.out; omega)))
      have HRR : Hid (Has wr (w.heap.size + 1) zK 26) := Lib.hid ((hbel.block (w.heap.size + 1) (by have := HNB.out; omega)).trans R2.out)
      clear hbel hex hwk hS' hfold
      by_cases hlt : i < k
      · rcases HL.out.at_ with h0 | ⟨b, off, rfl, hb, hc⟩
        · omega
        obtain ⟨L, hX, hr0⟩ := hc i hlt
        have HRANGE := Lib.hid (range_later hr0 HBW.out hb)
        have HX : Hid (∀ W, Below w.heap.size w W → IsX W m L (l.getD i default)) := Lib.hid (fun W hW => hX.later hW)
        have hone := Lib.hid hX.eight.2
        have hll := Lib.hid hX.eight.1
        have hki : (i : Int) < (k : Int) := by omega
        have hroom := HL.out.room
        unfold maxLen at hroom
        have hni : (i : Int) + 1 ≤ 9223372036854775807 := by omega
        have hdr : Hid (l.drop i = l.getD i default :: l.drop (i + 1)) := Lib.hid (by
          have hil : i < l.length := by rw [HL.out.length]; exact hlt
          rw [List.drop_eq_getElem_cons hil]
          simp [List.getD, List.getElem?_eq_getElem hil])
        obtain ⟨x, hx⟩ : ∃ x, x = l.getD i default := ⟨_, rfl⟩
        rw [← hx] at HX hdr
        have hA : Hid ((#[.int .u8 0, .string ⟨#[]⟩, .string ⟨#[]⟩, .int .u8 0, .bool false, .slice none 0 0, .slice none 0 0, .slice none 0 0] : Array Value).size = L.toArray.size) := Lib.hid (by have := hll.out; simp [this])
        have hIE : Hid ((Tryd.prog.info? 41).map (·.size) = some L.toArray.size) := Lib.hid (by rw [List.size_toArray, hll.out]; kernel_rfl)
        have hIL : Hid ((Tryd.prog.info? 41).map (·.size) = some L.length) := Lib.hid (by rw [hll.out]; kernel_rfl)
        have HLT := Lib.hid hlt
        clear hX hr0 hx hc hlt
        go_wp2_with (first
          | (refine wpList_load_mid rfl 41 _ rfl b (off + i * 8) rfl L _ HRANGE.out Tryd.underlying41 rfl hIL.out ?_)
          | (refine wpList_store_row rfl 41 _ _ rfl wr.heap.size L.toArray rfl rfl 41 _ (heap_alloc_new wr _) hIE.out hA.out hone.out ?_)
          | (refine wpList_load_row rfl 41 _ rfl wr.heap.size rfl 41 L.toArray (0, 0) _ (setRow_heap _ _ _ _ _ _ (heap_alloc_new wr _)) Tryd.underlying41 rfl hIE.out ?_))
        obtain ⟨w5, hw5⟩ : ∃ w5, w5 = (wr.alloc (.cells #[.int .u8 0, .string ⟨#[]⟩, .string ⟨#[]⟩, .int .u8 0, .bool false, .slice none 0 0, .slice none 0 0, .slice none 0 0] 41)).setRow wr.heap.size L.toArray := ⟨_, rfl⟩
        have b5 : Below wr.heap.size wr w5 := by
          rw [hw5]
          exact below_setRow ((Below.refl _ _).alloc (Nat.le_refl _) _) (Nat.le_refl _) _
        rw [← hw5]
        have B5 := Lib.hid b5
        have BW5 : Hid (Below w.heap.size w w5) := Lib.hid (HBW.out.trans (b5.mono HBW.out.size))
        have hnw : NB ≤ wr.heap.size := Nat.le_trans HSZ2.out HBE.out.size
        have K5 := Lib.hid (apply_any (x := x) (HWK'.out.later b5) (Nat.le_trans hnw b5.size) HEX'.out.1 (HX.out w5 BW5.out) (HM.out.below BW5.out HMX.out) (by have := HMX.out; have := HNB.out; omega))
        have HNW := Lib.hid hnw
        obtain ⟨G, hG⟩ : ∃ G, G = applyE x t' a' b' := ⟨_, rfl⟩
        rw [← hG] at K5
        have HG := Lib.hid hG
        clear hw5 b5 hnw hG
        refine K5.out.mono ?_
        rintro e w6 ⟨rfl, hf6, hok6⟩
        obtain ⟨D, hD⟩ : ∃ D, D = G.1 := ⟨_, rfl⟩
        rw [← hD]
        have HD := Lib.hid hD
        have HF6 := Lib.hid hf6
        have HOK6 := Lib.hid hok6
        have hpNB : NB ≤ p := by have := HP.out; rw [S1.out] at this; rw [HNB.out]; exact this
        have B6 : Hid (Below NB w2 w6) := Lib.hid (HBE.out.trans ((B5.out.mono HNW.out).trans (hf6.below (Nat.le_trans HNW.out B5.out.size) (fun g hg => by
          rcases List.mem_cons.1 hg with h | h
          · rw [h]; exact hpNB
          · exact HSS'.out g h))))
        have hfo2 : foldE (l.drop i) t' a' b' = if D ≠ 0 then G else foldE (l.drop (i + 1)) G.2.1 G.2.2.1 G.2.2.2 := by rw [hdr.out, foldE, ← HG.out, ← hD]
        have HFO2 := Lib.hid (HFO.out.trans hfo2)
        clear hD hf6 hok6 hpNB hfo2
        by_cases h0 : D = 0
        · have hg0 : G.1 = 0 := by rw [← HD.out]; exact h0
          have hexn : Exact G.2.1 G.2.2.1 G.2.2.2 := by
            rw [HG.out] at hg0 ⊢
            exact applyE_ok HEX'.out hg0
          obtain ⟨S2, q1, q2⟩ := HOK6.out hg0
          have HQ1 := Lib.hid q1
          have HQ2 := Lib.hid q2
          have HEXN := Lib.hid hexn
          subst h0
          clear hg0 hexn q1 q2
          go_wp2_with fail
          go_roundw
          case rel => exact ⟨i + 1, by have := HLT.out; omega, by go_num, B6.out, _, _, _, S2, HEXN.out, HQ1.out, fun g hg => by
            rcases HQ2.out g hg with h | h
            · exact HSS'.out g h
            · have := HNW.out; have := B5.out.size; omega, by rw [HFO2.out, if_neg (by simp)]⟩
          case measure =>
            have := HLT.out
            simp only [intOf]; omega
        · have h0i : ¬ ((D : Int) = 0) := by omega
          have HD0 := Lib.hid h0
          have HVD : Hid (V = G) := Lib.hid (by rw [HVG.out, HFO2.out, if_pos h0])
          have R6 : Hid (w6.heap[w.heap.size + 1]? = some (.cells zK.toArray 26 (0, 0))) := Lib.hid ((B6.out.block (w.heap.size + 1) (by have := HNB.out; omega)).trans R2.out)
          have BW6 : Hid (Below w.heap.size w w6) := Lib.hid (BW2.out.trans (B6.out.mono (by have := HNB.out; omega)))
          clear h0 hki hroom hni
          go_wp2_with (refine wpList_store_row rfl 26 _ _ rfl (w.heap.size + 1) zK.toArray rfl rfl 26 zK.toArray R6.out hZ5.out rfl hZ1.out ?_)
          refine bodyPost_ret (results_ct (fn := Tryd.f11) (p := 4) (u := 5) (ty := 26) Tryd.results11 _ _ (w.heap.size + 1) 26 zK.toArray (0, 0) _ rfl (setRow_heap _ _ _ _ _ _ R6.out) Tryd.underlying26 rfl hZ5.out) rfl ?_
          refine hRP.out _ _ ⟨zK, by rw [HVD.out, ← HD.out]; rfl, rfl, hZ1.out, below_setRow BW6.out (by omega) _, fun h => absurd (by rw [HVD.out, ← HD.out] at h; exact h) HD0.out, fun _ => rfl⟩
      · obtain rfl : k = i := by omega
        have hdl : l.drop k = [] := List.drop_eq_nil_of_le (by rw [HL.out.length]; exact Nat.le_refl _)
        have HVE : Hid (V = (0, t', a', b')) := Lib.hid (by rw [HVG.out, HFO.out, hdl]; rfl)
        have hwk := HWK'.out
        obtain ⟨R, hws⟩ := hwk
        have HWS := Lib.hid hws
        have HRG : Hid (wr.rangeAt p 0 R) := Lib.hid (fun j v hv => by
          rw [Nat.zero_add]
          exact Has.cellAt hws.hR (by rw [List.getElem?_append_left (List.getElem?_eq_some_iff.1 hv).1]; exact hv))
        have hRe : Hid (MT wr NB R t' S') := Lib.hid hws.mt
        have HR5 := Lib.hid (infoL hws.r5)
        have HR5' : Hid ((Tryd.prog.info? 26).map (·.size) = some R.length) := Lib.hid (by rw [info5, hws.r5])
        have HRl := Lib.hid hws.r5
        have HRs : Hid (zK.toArray.size = R.toArray.size) := Lib.hid (by simp [zK, hws.r5])
        have HR1 : Hid (R.toArray.all (·.oneCell') = true) := Lib.hid (by
          rw [Array.all_eq_true_iff_forall_mem]
          intro u hu
          exact hws.mt.one u (by simpa using hu))
        have HRRr : Hid (wr.heap[w.heap.size + 1]? = some (.cells zK.toArray 26 (0, 0))) := Lib.hid (show _ from HRR.out)
        clear hws hdl hlt
        go_wp2_with (first
          | (refine wpList_load_mid rfl 26 _ rfl p 0 rfl R _ HRG.out Tryd.underlying26 rfl HR5'.out ?_)
          | (refine wpList_store_row rfl 26 _ _ rfl (w.heap.size + 1) R.toArray rfl rfl 26 zK.toArray HRRr.out HR5.out HRs.out HR1.out ?_))
        refine bodyPost_ret (results_ct (fn := Tryd.f11) (p := 4) (u := 5) (ty := 26) Tryd.results11 _ _ (w.heap.size + 1) 26 R.toArray (0, 0) _ rfl (setRow_heap _ _ _ _ _ _ HRRr.out) Tryd.underlying26 rfl HR5.out) rfl ?_
        refine hRP.out _ _ ⟨R, by rw [HVE.out]; rfl, HRl.out, HR1.out, below_setRow HBW.out (by omega) _, fun _ => ⟨S', ?_⟩, fun h => absurd (by rw [HVE.out]) h⟩
        rw [HVE.out]
        have hf3 : Fr [w.heap.size + 1] wr (wr.setRow (w.heap.size + 1) R.toArray) := (Fr.refl _ _).setRow (.inl (by simp)) _
        exact (hRe.out.frame hf3 (Rows.cons HRR.out (by decide) (Rows.nil _)) (fun g hg hm => by
          simp only [List.mem_cons, List.not_mem_nil, or_false] at hm
          have h1 := HSS'.out g hg
          have h2 := HNB.out
          omega)).low (by have := HNB.out; omega)
  · have HVB := Lib.hid (HV.out.trans (run_bad hs))
    have R2r : Hid (w2.heap[w.heap.size + 1]? = some (.cells zK.toArray 26 (0, 0))) := Lib.hid (show _ from R2.out)
    clear hs
    go_wp2_with (refine wpList_store_row rfl 26 _ _ rfl (w.heap.size + 1) zK.toArray rfl rfl 26 zK.toArray R2r.out hZ5.out rfl hZ1.out ?_)
    refine bodyPost_ret (results_ct (fn := Tryd.f11) (p := 4) (u := 5) (ty := 26) Tryd.results11 _ _ (w.heap.size + 1) 26 zK.toArray (0, 0) _ rfl (setRow_heap _ _ _ _ _ _ R2r.out) Tryd.underlying26 rfl hZ5.out) rfl ?_
    exact hRP.out _ _ ⟨zK, by rw [HVB.out]; rfl, rfl, hZ1.out, below_setRow BW2.out (by omega) _, fun h => by rw [HVB.out] at h; simp at h, fun _ => rfl⟩

end Go.Proofs.YtbempgdndmchlaaDoor
