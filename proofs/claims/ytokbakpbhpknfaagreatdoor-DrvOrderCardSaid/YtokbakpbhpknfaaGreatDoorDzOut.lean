/-
  The contract of the program's Out. Conditions: bounds on the texts' sizes; what the program's text has laid.
-/
import Derived.Test.YtokbakpbhpknfaaGreatDoorDzMod
namespace Go.Proofs.YtokbakpbhpknfaaGreatDoor
open Go.RowKit
set_option linter.unusedVariables false

/-- The path of what a derivation makes. -/
def kindL (s4 : ByteArray) : List UInt8 := if s4.data.toList.isEmpty = true then [111, 117, 116, 112, 117, 116] else [102, 105, 120, 101, 100]
def doutB (s0 : ByteArray) (l2 : List ByteArray) (s3 s4 : ByteArray) (ds : List (List UInt8)) : ByteArray := Nam.pathB (fd (mkT (kindL s4) (modD s0 l2 s3 s4 ds) s0.data.toList)) s0
def OutP (s0 : ByteArray) (l1 l2 : List ByteArray) (s3 s4 : ByteArray) (ds : List (List UInt8)) (w : World) (e : Ending) (w' : World) : Prop :=
  (formB s0 l1 l2 s3 s4 = false → e = .returned (.tuple #[.string ⟨#[]⟩, .int .i64 3])) ∧
  (formB s0 l1 l2 s3 s4 = true → ds.length ≠ l1.length → e = .returned (.tuple #[.string ⟨#[]⟩, .int .i64 1])) ∧
  (formB s0 l1 l2 s3 s4 = true → ds.length = l1.length → e = .returned (.tuple #[.string (doutB s0 l2 s3 s4 ds), .int .i64 0])) ∧ Below w.heap.size w w'
/-- What Modulo tells, in one form. -/
theorem mod_form {s0 : ByteArray} {l1 l2 : List ByteArray} {s3 s4 : ByteArray} {ds : List (List UInt8)} {w w' : World} {e : Ending} (h : ModP s0 l1 l2 s3 s4 ds w e w') :
    ∃ (D : List UInt8) (k : Int), e = .returned (.tuple #[.agg (D.map Nam.bv).toArray, .int .i64 k]) ∧ D.length = 32 ∧ Below w.heap.size w w' ∧
      ((formB s0 l1 l2 s3 s4 = false ∧ k = 3 ∧ D = z32) ∨ (formB s0 l1 l2 s3 s4 = true ∧ ds.length ≠ l1.length ∧ k = 1) ∨ (formB s0 l1 l2 s3 s4 = true ∧ ds.length = l1.length ∧ k = 0 ∧ D = modD s0 l2 s3 s4 ds)) := by
  obtain ⟨h1, h2, h3, hb⟩ := h
  cases hf : formB s0 l1 l2 s3 s4 with
  | false => exact ⟨z32, 3, h1 hf, rfl, hb, .inl ⟨rfl, rfl, rfl⟩⟩
  | true =>
    by_cases hn : ds.length = l1.length
    · exact ⟨_, 0, h3 hf hn, modD_length _ _ _ _ _, hb, .inr (.inr ⟨rfl, hn, rfl, rfl⟩)⟩
    · exact ⟨z32, 1, h2 hf hn, rfl, hb, .inr (.inl ⟨rfl, hn, rfl⟩)⟩

set_option maxRecDepth 100000 in
set_option maxHeartbeats 20000000 in
theorem dout_any (s0 s3 s4 : ByteArray) (a1 a2 : Option Addr) (n1 c1 n2 c2 : Nat) (l1 l2 : List ByteArray) (ad : Option Addr) (nd cd : Nat) (ds : List (List UInt8)) (w : World) (h1 : IsS w a1 n1 c1 l1) (h2 : IsS w a2 n2 c2 l2) (hsm : SmallD s0 l1 l2 s3 s4) (hd : IsA w ad nd cd ds) (hl : LaidW w) :
    Calls Tryz.prog 10 #[.agg #[.string s0, .slice a1 n1 c1, .slice a2 n2 c2, .string s3, .string s4], .slice ad nd cd] w (OutP s0 l1 l2 s3 s4 ds w) := by
  have kM := fun (w : World) (h1 : IsS w a1 n1 c1 l1) (h2 : IsS w a2 n2 c2 l2) (hd : IsA w ad nd cd ds) (hl : LaidW w) => dmod_any s0 s3 s4 a1 a2 n1 c1 n2 c2 l1 l2 ad nd cd ds w h1 h2 hsm hd hl
  obtain ⟨L5, hL5⟩ : ∃ L : List Value, L = [.string s0, .slice a1 n1 c1, .slice a2 n2 c2, .string s3, .string s4] := ⟨_, rfl⟩
  have hag : (#[.string s0, .slice a1 n1 c1, .slice a2 n2 c2, .string s3, .string s4] : Array Value) = L5.toArray := by rw [hL5]
  have HLI : Hid ((Tryz.prog.info? 24).map (·.size) = some L5.toArray.size) := Lib.hid (by rw [hL5]; exact info_dL _ _ _ _ _ _ _ _ _)
  rw [hag] at kM
  have KM := Lib.hid kM
  have HL5 := Lib.hid hL5
  have I1 := Lib.hid h1
  have I2 := Lib.hid h2
  have ID := Lib.hid hd
  have HL := Lib.hid hl
  have HZI : Hid ((Tryz.prog.info? 30).map (·.size) = some (z32.map Nam.bv).toArray.size) := Lib.hid (info_a32 z32 rfl)
  have HZL : Hid ((#[.int .u8 0, .int .u8 0, .int .u8 0, .int .u8 0, .int .u8 0, .int .u8 0, .int .u8 0, .int .u8 0, .int .u8 0, .int .u8 0, .int .u8 0, .int .u8 0, .int .u8 0, .int .u8 0, .int .u8 0, .int .u8 0, .int .u8 0, .int .u8 0, .int .u8 0, .int .u8 0, .int .u8 0, .int .u8 0, .int .u8 0, .int .u8 0, .int .u8 0, .int .u8 0, .int .u8 0, .int .u8 0, .int .u8 0, .int .u8 0, .int .u8 0, .int .u8 0] : Array Value) = (z32.map Nam.bv).toArray) := Lib.hid rfl
  have hem : s4.toList.isEmpty = s4.data.toList.isEmpty := by rw [ByteArray.toList_eq]
  have hz0 := hsm.z0
  clear kM hL5 hag h1 h2 hd hl hsm
  go_enter Tryz.func10, Tryz.ntmps10
  go_upto_region 1 with fail
  obtain ⟨w1, hw1⟩ : ∃ w1, w1 = w.alloc (.cells #[.string s0, .slice a1 n1 c1, .slice a2 n2 c2, .string s3, .string s4] 24) := ⟨_, rfl⟩
  have g1 : Has w1 w.heap.size L5 24 := by rw [hw1, HL5.out]; exact Has.new w _ _
  have bl1 : Below w.heap.size w w1 := by rw [hw1]; exact (Below.refl _ _).alloc (Nat.le_refl _) _
  rw [← hw1]
  obtain ⟨G, hG⟩ : ∃ G, G = w.heap.size := ⟨_, rfl⟩
  rw [← hG] at g1 bl1 ⊢
  have HG := Lib.hid hG
  have G1 := Lib.hid g1
  have B1 := Lib.hid bl1
  clear hw1 g1 bl1 hG
  go_wp2_with (refine wpList_load_row rfl 24 _ rfl G rfl 24 L5.toArray (0, 0) _ G1.out Tryz.underlying24 rfl HLI.out ?_)
  refine (KM.out w1 (I1.out.later (by rw [← HG.out]; exact B1.out)) (I2.out.later (by rw [← HG.out]; exact B1.out)) (ID.out.later (by rw [← HG.out]; exact B1.out)) (HL.out.later (by rw [← HG.out]; exact B1.out))).mono ?_
  rintro e w2 hq
  obtain ⟨D, k, rfl, hDl, x2, hk⟩ := mod_form hq
  have B2 : Hid (Below G w w2) := Lib.hid (B1.out.trans (x2.mono (Nat.le_of_lt G1.out.lt)))
  have G2 := Lib.hid (G1.out.below x2 G1.out.lt)
  obtain ⟨C, hC⟩ : ∃ C, C = (D.map Nam.bv).toArray := ⟨_, rfl⟩
  rw [← hC]
  have HCI : Hid ((Tryz.prog.info? 30).map (·.size) = some C.size) := Lib.hid (by rw [hC]; exact info_a32 D hDl)
  have HCO : Hid (C.all (·.oneCell') = true) := Lib.hid (by rw [hC]; exact one32 D)
  have HCS : Hid ((z32.map Nam.bv).toArray.size = C.size) := Lib.hid (by rw [hC]; exact rowLen D hDl)
  have NW : Hid (Has (w2.alloc (.cells (z32.map Nam.bv).toArray 30)) w2.heap.size (z32.map Nam.bv) 30) := Lib.hid (Has.new w2 (z32.map Nam.bv) _)
  obtain ⟨v1, v2⟩ := var_a32 (w := w2) D
  have V1 := Lib.hid v1
  have V2 := Lib.hid v2
  have HC := Lib.hid hC
  have HK := Lib.hid hk
  have HDL := Lib.hid hDl
  clear x2 hq hk hC v1 v2 hDl G1 B1 KM
  go_upto_region 2 with (refine wpList_store_row rfl 30 _ _ rfl w2.heap.size C rfl rfl 30 _ NW.out HCI.out HCS.out HCO.out ?_)
  rw [HZL.out]
  obtain ⟨w3, hw3⟩ : ∃ x, x = (w2.alloc (.cells (z32.map Nam.bv).toArray 30)).setRow w2.heap.size C := ⟨_, rfl⟩
  rw [← HC.out] at V1 V2
  rw [← hw3] at V1 V2 ⊢
  obtain ⟨g, hg⟩ : ∃ g, g = w2.heap.size := ⟨_, rfl⟩
  rw [← hg] at V1 ⊢
  have B3 : Hid (Below G w w3) := Lib.hid (B2.out.trans (V2.out.mono (Nat.le_of_lt G2.out.lt)))
  have G3 := Lib.hid (G2.out.below V2.out G2.out.lt)
  have V3 : Hid (w3.heap[g]? = some (.cells C 30 (0, 0))) := Lib.hid (by rw [HC.out]; exact V1.out)
  clear hw3 hg NW V1 V2 G2 B2
  rcases HK.out with ⟨hf, rfl, _⟩ | ⟨hf, hn, rfl⟩ | ⟨hf, hn, rfl, hD⟩
  · as_aux_lemma =>
      have HF := Lib.hid hf
      clear hf HK
      go_wp2_with fail
      go_ret2
      exact ⟨(fun _ => rfl), (fun h => by rw [HF.out] at h; cases h), (fun h => by rw [HF.out] at h; cases h), by rw [← HG.out]; exact B3.out⟩
  · as_aux_lemma =>
      have HF := Lib.hid hf
      have HN := Lib.hid hn
      clear hf hn HK
      go_wp2_with fail
      go_ret2
      exact ⟨(fun h => by rw [HF.out] at h; cases h), (fun _ _ => rfl), (fun _ h => absurd h HN.out), by rw [← HG.out]; exact B3.out⟩
  · have HF := Lib.hid hf
    have HN := Lib.hid hn
    obtain ⟨hnm, h36, _⟩ := name_of hf
    have hk := fun (kind : ByteArray) (hkd : kind.size ≤ 2000) (w : World) (h : LaidW w) => nmake_any kind s0 D w h hkd HDL.out (by omega)
    obtain ⟨Q, hQ⟩ : ∃ Q, Q = doutB s0 l2 s3 s4 ds := ⟨_, rfl⟩
    have HQ := Lib.hid hQ
    have y4 : w3.cell? ⟨G, 4, none⟩ = some (.string s4) := G3.out.cellAt (by rw [HL5.out]; rfl)
    have y0 : w3.cell? ⟨G, 0, none⟩ = some (.string s0) := G3.out.cellAt (by rw [HL5.out]; rfl)
    cases h4 : s4.data.toList.isEmpty with
    | true =>
      as_aux_lemma =>
        rw [h4] at hem
        have hk2 := hk ⟨#[111, 117, 116, 112, 117, 116]⟩ (by decide) w3 (HL.out.later (by rw [← HG.out]; exact B3.out))
        rw [makeV_name hnm, ← HC.out, show Nam.pathB (fd (mkT (⟨#[111, 117, 116, 112, 117, 116]⟩ : ByteArray).data.toList D s0.data.toList)) s0 = Q by rw [hQ, hD]; unfold doutB kindL; rw [if_pos h4]] at hk2
        have HK2 := Lib.hid hk2
        clear hk hk2 hnm h36 h4 hf hn hD hQ HK
        go_wp2_with (refine wpList_load_row rfl 30 _ rfl g rfl 30 C (0, 0) _ V3.out Tryz.underlying30 rfl HCI.out ?_)
        refine HK2.out.mono ?_
        rintro e w4 ⟨rfl, x4⟩
        have B4 : Hid (Below G w w4) := Lib.hid (B3.out.trans (x4.mono (Nat.le_of_lt G3.out.lt)))
        clear x4 HK2 y4 y0
        go_wp2_with fail
        go_ret2
        exact ⟨(fun h => by rw [HF.out] at h; cases h), (fun _ h => absurd HN.out h), (fun _ _ => by rw [← HQ.out]; rfl), by rw [← HG.out]; exact B4.out⟩
    | false =>
      as_aux_lemma =>
        rw [h4] at hem
        have hk2 := hk ⟨#[102, 105, 120, 101, 100]⟩ (by decide) w3 (HL.out.later (by rw [← HG.out]; exact B3.out))
        rw [makeV_name hnm, ← HC.out, show Nam.pathB (fd (mkT (⟨#[102, 105, 120, 101, 100]⟩ : ByteArray).data.toList D s0.data.toList)) s0 = Q by rw [hQ, hD]; unfold doutB kindL; rw [if_neg (by rw [h4]; decide)]] at hk2
        have HK2 := Lib.hid hk2
        clear hk hk2 hnm h36 h4 hf hn hD hQ HK
        go_wp2_with (refine wpList_load_row rfl 30 _ rfl g rfl 30 C (0, 0) _ V3.out Tryz.underlying30 rfl HCI.out ?_)
        refine HK2.out.mono ?_
        rintro e w4 ⟨rfl, x4⟩
        have B4 : Hid (Below G w w4) := Lib.hid (B3.out.trans (x4.mono (Nat.le_of_lt G3.out.lt)))
        clear x4 HK2 y4 y0
        go_wp2_with fail
        go_ret2
        exact ⟨(fun h => by rw [HF.out] at h; cases h), (fun _ h => absurd HN.out h), (fun _ _ => by rw [← HQ.out]; rfl), by rw [← HG.out]; exact B4.out⟩
end Go.Proofs.YtokbakpbhpknfaaGreatDoor
