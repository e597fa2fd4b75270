/-
  One edit of a tree that is worked on: the program's apply. Conditions: the tree reads as one in rows of its own, within the limits; the edit may be read.
-/
import Derived.Test.YtnfhmndepfmmoaaDoorEApp
import Derived.Test.YtnfhmndepfmmoaaDoorECopy
namespace Go.Proofs.YtnfhmndepfmmoaaDoor
open Go.RowKit
set_option linter.unusedVariables false

/-- An edit: what it does, where, from where, a tree. -/
structure EdD where
  kind : UInt8
  path : ByteArray
  src : ByteArray
  tree : T

/-- Eight cells that read as an edit. -/
def IsX (w : World) (m : Nat) (cs : List Value) (x : EdD) : Prop := ∃ ct, cs = [.int .u8 (x.kind.toNat : Int), .string x.path, .string x.src] ++ ct ∧ IsT w m ct x.tree

/-- A tree behind an edit. -/
def applyE (x : EdD) (t : T) (a b : Nat) : ER :=
  if belN x.path.data.toList ≠ 0 then (belN x.path.data.toList, t, a, b)
  else if x.kind = 1 then chgE .mk (nmE x.path.data.toList) 1 t a b
  else if x.kind = 2 then (if (sizeT x.tree).isSome then chgE (.put x.tree) (nmE x.path.data.toList) 1 t a b else (3, t, a, b))
  else if x.kind = 3 then (if belN x.src.data.toList ≠ 0 then (belN x.src.data.toList, t, a, b) else moveE (nmE x.src.data.toList) (nmE x.path.data.toList) t a b)
  else if x.kind = 4 then chgE .drop (nmE x.path.data.toList) 1 t a b
  else (3, t, a, b)

theorem op_of {w wz w' : World} {B p : Nat} {S Sx : List Nat} {gt : T} {r : ER} (hb : Below w.heap.size w wz) (hSx : ∀ g ∈ Sx, w.heap.size ≤ g) (h : TopP wz B p S Sx none gt r w') : OpP w B p S r (.returned (.int .i64 (r.1 : Int))) w' :=
  ⟨rfl, ((Fr.of_below (S := []) hb).mono (fun g hg _ => by cases hg)).trans h.1 (fun g hg _ => hg), fun h0 => by
    obtain ⟨S', k1, k2, _⟩ := h.2 h0
    exact ⟨S', k1, fun g hg => by
      rcases k2 g hg with h | h | h
      · exact .inl h
      · exact .inr (hSx g h)
      · exact .inr (Nat.le_trans hb.size h)⟩⟩
theorem op_below {w wz w' : World} {B p : Nat} {S : List Nat} {r : ER} {e : Ending} (hb : Below w.heap.size w wz) (h : OpP wz B p S r e w') : OpP w B p S r e w' :=
  ⟨h.1, ((Fr.of_below (S := []) hb).mono (fun g hg _ => by cases hg)).trans h.2.1 (fun g hg _ => hg), fun h0 => by
    obtain ⟨S', k1, k2⟩ := h.2.2 h0
    exact ⟨S', k1, fun g hg => (k2 g hg).imp id (fun h => Nat.le_trans hb.size h)⟩⟩
theorem op_err {w w' : World} {B p : Nat} {S : List Nat} {t : T} {a b c : Nat} (hb : Below w.heap.size w w') (hc : c ≠ 0) : OpP w B p S (c, t, a, b) (.returned (.int .i64 (c : Int))) w' :=
  ⟨rfl, (Fr.of_below (S := []) hb).mono (fun g hg _ => by cases hg), fun h => absurd h hc⟩

theorem sizeT_get {t : T} (h : (sizeT t).isSome = true) : sizeT t = some (sizeN t, bytesT t) ∧ fmA t ∧ Small t ∧ sizeN t ≤ 4096 := by
  obtain ⟨⟨x, y⟩, hx⟩ := Option.isSome_iff_exists.1 h
  obtain ⟨h1, h2, h3, h4, rfl, rfl⟩ := (sizeT_iff t x y).1 hx
  exact ⟨hx, h1, small_of _ t (Nat.le_refl _) h1 h4 (by omega), h3⟩

set_option maxRecDepth 100000 in
set_option maxHeartbeats 20000000 in
theorem apply_any {w : World} {B p a b m : Nat} {t : T} {S : List Nat} {cs : List Value} {x : EdD} (h : WK w B p t a b S) (hB : B ≤ w.heap.size) (hlim : Lim t 1 a b) (hx : IsX w m cs x) (hm : MaxW w) (hmx : 0 < B) :
    Calls Tryd.prog 19 #[.pointer (some ⟨p, 0, none⟩), .agg cs.toArray] w (OpP w B p S (applyE x t a b)) := by
  obtain ⟨k, path, src, tt⟩ := x
  obtain ⟨ct, rfl, hT⟩ := hx
  obtain ⟨c0, c1, c2, c3, c4, rfl⟩ := five_list (isT_five hT)
  obtain ⟨E8, hE8⟩ : ∃ E8, E8 = ([.int .u8 (k.toNat : Int), .string path, .string src, c0, c1, c2, c3, c4] : List Value) := ⟨_, rfl⟩
  rw [show ([.int .u8 (k.toNat : Int), .string path, .string src] ++ [c0, c1, c2, c3, c4] : List Value) = E8 from hE8.symm]
  obtain ⟨w1, hw1⟩ : ∃ w1, w1 = w.alloc (.cells E8.toArray 41) := ⟨_, rfl⟩
  have b1 : Below w.heap.size w w1 := by rw [hw1]; exact (Below.refl _ _).alloc (Nat.le_refl _) _
  have g1 : Has w1 w.heap.size E8 41 := by rw [hw1]; exact Has.new w E8 _
  have m1 : MaxW w1 := hm.below b1 (Nat.lt_of_lt_of_le hmx hB)
  have hlt := h.lt
  -- what the edit does
  obtain ⟨P, hP⟩ : ∃ P, P = path.data.toList := ⟨_, rfl⟩
  obtain ⟨Q, hQ⟩ : ∃ Q, Q = src.data.toList := ⟨_, rfl⟩
  obtain ⟨V, hV⟩ : ∃ V, V = applyE ⟨k, path, src, tt⟩ t a b := ⟨_, rfl⟩
  have hVu : V = if belN P ≠ 0 then (belN P, t, a, b) else if k = 1 then chgE .mk (nmE P) 1 t a b else if k = 2 then (if (sizeT tt).isSome then chgE (.put tt) (nmE P) 1 t a b else (3, t, a, b))
      else if k = 3 then (if belN Q ≠ 0 then (belN Q, t, a, b) else moveE (nmE Q) (nmE P) t a b) else if k = 4 then chgE .drop (nmE P) 1 t a b else (3, t, a, b) := by rw [hV, hP, hQ]; rfl
  rw [← hV]
  have HVU := Lib.hid hVu
  have HBEL := Lib.hid (below_any path w1 m1)
  rw [← hP] at HBEL
  have HBEQ := Lib.hid (fun (W : World) (hW : MaxW W) => below_any src W hW)
  rw [← hQ] at HBEQ
  have H := Lib.hid h
  have HB := Lib.hid hB
  have HLIM := Lib.hid hlim
  have HT := Lib.hid hT
  have HMX := Lib.hid hmx
  have HLT := Lib.hid hlt
  have B1 := Lib.hid b1
  have G1 := Lib.hid g1
  have M1 := Lib.hid m1
  have HW1 := Lib.hid hw1
  have HE8 := Lib.hid hE8
  have hq1 := Has.cellAt g1 (i := 1) (v := .string path) (by rw [hE8]; rfl)
  have HI5 : Hid ((Tryd.prog.info? 26).map (·.size) = some ([c0, c1, c2, c3, c4] : List Value).length) := Lib.hid (by kernel_rfl)
  clear h hB hlim hT hm hmx hlt b1 g1 m1 hw1 hE8 hVu hV hP hQ
  go_enter Tryd.func19, Tryd.ntmps19
  go_upto_region 1 with fail
  rw [← HW1.out]
  go_wp2_with fail
  refine HBEL.out.mono ?_
  rintro e w2 ⟨a1, n1, k1, l1, hl1, rfl, hl1n, ho1, hb2⟩
  obtain ⟨bn, hbn⟩ : ∃ bn, bn = belN P := ⟨_, rfl⟩
  rw [← hbn] at hl1n ⊢
  have HBN := Lib.hid hbn
  have B2 := Lib.hid (B1.out.trans (hb2.mono B1.out.size))
  have G2 : Hid (Has w2 w.heap.size E8 41) := Lib.hid (has_fr G1.out (Fr.of_below (S := []) hb2) (by simp))
  have M2 : Hid (MaxW w2) := Lib.hid (M1.out.below hb2 (by have := HMX.out; have := HB.out; have := B1.out.size; omega))
  have HL1 := Lib.hid hl1
  have HLN := Lib.hid hl1n
  have HO1 := Lib.hid ho1
  clear hl1 hl1n ho1 hb2 hbn hq1
  by_cases h0 : bn = 0
  · subst h0
    have hln := HLN.out rfl
    subst hln
    have hnn : ∀ x ∈ nmE P, tName x.data.toList = true := nmE_names HBN.out.symm
    have HNN := Lib.hid hnn
    have hV0 : Hid (V = if k = 1 then chgE .mk (nmE P) 1 t a b else if k = 2 then (if (sizeT tt).isSome then chgE (.put tt) (nmE P) 1 t a b else (3, t, a, b))
      else if k = 3 then (if belN Q ≠ 0 then (belN Q, t, a, b) else moveE (nmE Q) (nmE P) t a b) else if k = 4 then chgE .drop (nmE P) 1 t a b else (3, t, a, b)) := Lib.hid (by rw [HVU.out, if_neg (by rw [← HBN.out]; simp)])
    have WK2 := Lib.hid (H.out.later B2.out)
    have HB2 : Hid (B ≤ w2.heap.size) := Lib.hid (Nat.le_trans HB.out B2.out.size)
    have hqk := Has.cellAt G2.out (i := 0) (v := .int .u8 (k.toNat : Int)) (by rw [HE8.out]; rfl)
    clear HVU hnn
    by_cases k1 : k = 1
    · subst k1
      have hqk' : w2.cell? ⟨w.heap.size, 0, none⟩ = some (.int .u8 1) := hqk
      clear hqk
      have hv : Hid (V = chgE .mk (nmE P) 1 t a b) := Lib.hid (by rw [hV0.out, if_pos rfl])
      have HC := Lib.hid (mkdir_any WK2.out HB2.out HLIM.out HL1.out (nmE_ne P))
      obtain ⟨G, hG⟩ : ∃ G, G = chgE .mk (nmE P) 1 t a b := ⟨_, rfl⟩
      rw [← hG] at hv HC
      clear hG
      go_wp2_with fail
      refine HC.out.mono ?_
      rintro e w3 ⟨rfl, h3⟩
      have H3 := Lib.hid (op_of B2.out (fun g hg => by cases hg) h3)
      obtain ⟨D, hD⟩ : ∃ D, D = G.1 := ⟨_, rfl⟩
      rw [← hD] at H3 ⊢
      clear hD h3
      go_wp2_with fail
      go_ret
      rw [hv.out]
      exact H3.out
    by_cases k2 : k = 2
    · subst k2
      have hqk' : w2.cell? ⟨w.heap.size, 0, none⟩ = some (.int .u8 2) := hqk
      clear hqk k1
      have R2 : Hid (w2.rangeAt w.heap.size 3 [c0, c1, c2, c3, c4]) := Lib.hid (fun j v hv => by
        have hj : j < 5 := (List.getElem?_eq_some_iff.1 hv).1
        have := Has.cellAt G2.out (i := 3 + j) (v := v) (by
          rw [HE8.out]
          match j, hj with
          | 0, _ => exact hv
          | 1, _ => exact hv
          | 2, _ => exact hv
          | 3, _ => exact hv
          | 4, _ => exact hv)
        exact this)
      have HF := Lib.hid (form_any m [c0, c1, c2, c3, c4] tt w2 (IsT.later B2.out _ _ _ HT.out))
      have hvv : Hid (V = if (sizeT tt).isSome then chgE (.put tt) (nmE P) 1 t a b else (3, t, a, b)) := Lib.hid (by rw [hV0.out, if_neg (by decide), if_pos rfl])
      obtain ⟨fb, hfb⟩ : ∃ fb, fb = (sizeT tt).isSome := ⟨_, rfl⟩
      rw [← hfb] at HF hvv
      have HFB := Lib.hid hfb
      clear hfb
      go_wp2_with (refine wpList_load_mid rfl 26 _ rfl w.heap.size 3 rfl [c0, c1, c2, c3, c4] _ R2.out Tryd.underlying26 rfl HI5.out ?_)
      refine HF.out.mono ?_
      rintro e w3 ⟨rfl, hb3⟩
      have B3 := Lib.hid hb3
      have R3 : Hid (w3.rangeAt w.heap.size 3 [c0, c1, c2, c3, c4]) := Lib.hid (fun j v hv => (hb3.cell (p := ⟨w.heap.size, 3 + j, none⟩) G2.out.lt).trans (R2.out j v hv))
      clear hb3
      rcases Bool.eq_false_or_eq_true fb with rfl | rfl
      · obtain ⟨s1, s2, s3, s4⟩ := sizeT_get HFB.out.symm
        have B3w := Lib.hid (B2.out.trans (B3.out.mono B2.out.size))
        have HCP := Lib.hid (mcopy_any m [c0, c1, c2, c3, c4] tt w3 (IsT.later B3w.out _ _ _ HT.out) s3 (by omega))
        have S1 := Lib.hid s1
        have S3 := Lib.hid s3
        have S4 := Lib.hid s4
        have hv : Hid (V = chgE (.put tt) (nmE P) 1 t a b) := Lib.hid (by rw [hvv.out, if_pos rfl])
        clear s1 s2 s3 s4 hvv
        go_wp2_with (refine wpList_load_mid rfl 26 _ rfl w.heap.size 3 rfl [c0, c1, c2, c3, c4] _ R3.out Tryd.underlying26 rfl HI5.out ?_)
        refine HCP.out.mono ?_
        rintro e w4 ⟨gcs, Sg, rfl, hmt, hSg, hb4⟩
        have B4 := Lib.hid (B3w.out.trans (hb4.mono B3w.out.size))
        have B42 := Lib.hid (B3.out.trans (hb4.mono B3.out.size))
        have hsz3 : w.heap.size ≤ w3.heap.size := B3w.out.size
        have HC := Lib.hid (put_any (WK2.out.later B42.out) (Nat.le_trans HB.out B4.out.size) HLIM.out (HL1.out.later B42.out) (nmE_ne P) (hmt.low (Nat.le_trans HB.out hsz3)) (fun g hg => ⟨fun hm => by have h1 := HLT.out.2 g hm; have h2 := hSg g hg; omega, fun e => by have h1 := HLT.out.1; have h2 := hSg g hg; omega⟩) S3.out S1.out (by have := S4.out; omega))
        have HSG : Hid (∀ g ∈ Sg, w.heap.size ≤ g) := Lib.hid (fun g hg => Nat.le_trans hsz3 (hSg g hg))
        obtain ⟨G, hG⟩ : ∃ G, G = chgE (.put tt) (nmE P) 1 t a b := ⟨_, rfl⟩
        rw [← hG] at hv HC
        clear hG hmt hSg hb4 hsz3
        go_wp2_with fail
        refine HC.out.mono ?_
        rintro e w5 ⟨rfl, h5⟩
        have H5 := Lib.hid (op_of B4.out HSG.out h5)
        obtain ⟨D, hD⟩ : ∃ D, D = G.1 := ⟨_, rfl⟩
        rw [← hD] at H5 ⊢
        clear hD h5
        go_wp2_with fail
        go_ret
        rw [hv.out]
        exact H5.out
      · have hv : Hid (V = (3, t, a, b)) := Lib.hid (by rw [hvv.out, if_neg (by simp)])
        go_wp2_with fail
        go_ret
        rw [hv.out]
        exact op_err (B2.out.trans (B3.out.mono B2.out.size)) (by decide)
    by_cases k3 : k = 3
    · subst k3
      have hqk' : w2.cell? ⟨w.heap.size, 0, none⟩ = some (.int .u8 3) := hqk
      have hqs := Has.cellAt G2.out (i := 2) (v := .string src) (by rw [HE8.out]; rfl)
      clear hqk k1 k2
      have hvv : Hid (V = if belN Q ≠ 0 then (belN Q, t, a, b) else moveE (nmE Q) (nmE P) t a b) := Lib.hid (by rw [hV0.out, if_neg (by decide), if_neg (by decide), if_pos rfl])
      have HBQ := Lib.hid (HBEQ.out w2 M2.out)
      go_wp2_with fail
      refine HBQ.out.mono ?_
      rintro e w3 ⟨a3, n3, q3, l3, hl3, rfl, hl3n, ho3, hb3⟩
      obtain ⟨bq, hbq⟩ : ∃ bq, bq = belN Q := ⟨_, rfl⟩
      rw [← hbq] at hl3n hvv ⊢
      have HBQN := Lib.hid hbq
      have B3 := Lib.hid hb3
      have B3w := Lib.hid (B2.out.trans (hb3.mono B2.out.size))
      have HL3 := Lib.hid hl3
      have HL3N := Lib.hid hl3n
      have HO3 := Lib.hid ho3
      clear hl3 hl3n ho3 hb3 hbq
      by_cases h3 : bq = 0
      · subst h3
        have hln3 := HL3N.out rfl
        subst hln3
        have hv : Hid (V = moveE (nmE Q) (nmE P) t a b) := Lib.hid (by rw [hvv.out, if_neg (by simp)])
        have hap : ∀ z, w.heap.size ≤ z → z ∉ p :: S := fun z hz hm => by
          rcases List.mem_cons.1 hm with h | h
          · have := HLT.out.1; omega
          · have := HLT.out.2 z h; omega
        have HC := Lib.hid (move_any (H.out.later B3w.out) (Nat.le_trans HB.out B3w.out.size) HLIM.out HL3.out (nmE_ne Q) (nmE_names HBQN.out.symm) (HL1.out.later B3.out) (nmE_ne P) (fun x hx => hap _ (Nat.le_trans B2.out.size (HO3.out x hx))) (fun x hx => hap _ (Nat.le_trans B1.out.size (HO1.out x hx))))
        obtain ⟨G, hG⟩ : ∃ G, G = moveE (nmE Q) (nmE P) t a b := ⟨_, rfl⟩
        rw [← hG] at hv HC
        clear hG hap
        go_wp2_with fail
        refine HC.out.mono ?_
        intro e w5 h5
        have h5e := h5.1
        subst h5e
        have H5 := Lib.hid (op_below B3w.out h5)
        obtain ⟨D, hD⟩ : ∃ D, D = G.1 := ⟨_, rfl⟩
        rw [← hD] at H5 ⊢
        clear hD h5
        go_wp2_with fail
        go_ret
        rw [hv.out]
        exact H5.out
      · have hv : Hid (V = (bq, t, a, b)) := Lib.hid (by rw [hvv.out, if_pos h3])
        have h3i : ¬ ((bq : Int) = 0) := by omega
        have H3 := Lib.hid h3
        clear h3
        go_wp2_with fail
        go_ret
        rw [hv.out]
        exact op_err B3w.out H3.out
    by_cases k4 : k = 4
    · subst k4
      have hqk' : w2.cell? ⟨w.heap.size, 0, none⟩ = some (.int .u8 4) := hqk
      clear hqk k1 k2 k3
      have hv : Hid (V = chgE .drop (nmE P) 1 t a b) := Lib.hid (by rw [hV0.out, if_neg (by decide), if_neg (by decide), if_neg (by decide), if_pos rfl])
      have HC := Lib.hid (drop_any WK2.out HB2.out HLIM.out HL1.out (nmE_ne P))
      obtain ⟨G, hG⟩ : ∃ G, G = chgE .drop (nmE P) 1 t a b := ⟨_, rfl⟩
      rw [← hG] at hv HC
      clear hG
      go_wp2_with fail
      refine HC.out.mono ?_
      rintro e w3 ⟨gcs, rfl, hg5, hg1, hf, hok⟩
      have H3 : Hid (OpP w B p S G (.returned (.int .i64 (G.1 : Int))) w3) := Lib.hid (op_below B2.out ⟨rfl, hf, fun h0 => by
        obtain ⟨S', Sg, q1, q2, _⟩ := hok h0
        exact ⟨S', q1, q2⟩⟩)
      obtain ⟨D, hD⟩ : ∃ D, D = G.1 := ⟨_, rfl⟩
      rw [← hD] at H3 ⊢
      have HN : Hid ((w3.alloc (.cells #[.int .u8 0, .bool false, .slice none 0 0, .slice none 0 0, .slice none 0 0] 26)).heap[w3.heap.size]? = some (.cells zK.toArray 26 (0, 0))) := Lib.hid (Has.new w3 zK _)
      have HG5 := Lib.hid (infoL hg5)
      have HGS : Hid (zK.toArray.size = gcs.toArray.size) := Lib.hid (by simp [zK, hg5])
      have HG1 := Lib.hid hg1
      have HFIN : Hid (OpP w B p S G (.returned (.int .i64 (D : Int))) ((w3.alloc (.cells #[.int .u8 0, .bool false, .slice none 0 0, .slice none 0 0, .slice none 0 0] 26)).setRow w3.heap.size gcs.toArray)) := Lib.hid (by
        have bb : Below w3.heap.size w3 ((w3.alloc (.cells #[.int .u8 0, .bool false, .slice none 0 0, .slice none 0 0, .slice none 0 0] 26)).setRow w3.heap.size gcs.toArray) := below_setRow ((Below.refl _ _).alloc (Nat.le_refl _) _) (Nat.le_refl _) _
        refine ⟨H3.out.1, H3.out.2.1.trans (Fr.of_below (S := []) bb) (fun g hg => by cases hg), fun h0 => ?_⟩
        obtain ⟨S', q1, q2⟩ := H3.out.2.2 h0
        exact ⟨S', q1.later bb, q2⟩)
      clear hD hg5 hg1 hf hok
      go_wp2_with (refine wpList_store_row rfl 26 _ _ rfl w3.heap.size gcs.toArray rfl rfl 26 zK.toArray HN.out HG5.out HGS.out HG1.out ?_)
      go_ret
      rw [hv.out]
      exact HFIN.out
    · have hi : ∀ c : UInt8, k ≠ c → ¬ ((k.toNat : Int) = (c.toNat : Int)) := fun c hc e => hc (UInt8.toNat_inj.1 (by omega))
      have i1 : ¬ ((k.toNat : Int) = 1) := hi 1 k1
      have i2 : ¬ ((k.toNat : Int) = 2) := hi 2 k2
      have i3 : ¬ ((k.toNat : Int) = 3) := hi 3 k3
      have i4 : ¬ ((k.toNat : Int) = 4) := hi 4 k4
      have hv : Hid (V = (3, t, a, b)) := Lib.hid (by rw [hV0.out, if_neg k1, if_neg k2, if_neg k3, if_neg k4])
      clear hi k1 k2 k3 k4
      go_wp2_with fail
      go_ret
      rw [hv.out]
      exact op_err B2.out (by decide)
  · have h0i : ¬ ((bn : Int) = 0) := by omega
    have hv : Hid (V = (bn, t, a, b)) := Lib.hid (by rw [HVU.out, ← HBN.out, if_pos h0])
    have H0 := Lib.hid h0
    clear h0
    go_wp2_with fail
    go_ret
    rw [hv.out]
    exact op_err B2.out H0.out

end Go.Proofs.YtnfhmndepfmmoaaDoor
