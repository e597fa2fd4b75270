/-
  The contract of nar's awake: the document's example holds.
-/
import Derived.Test.YthjihibocobndaaNWrite
import Derived.Test.YthjihibocobndaaTRSame
namespace Go.Proofs.Ythjihibocobndaa
open Go.RowKit
set_option linter.unusedVariables false

def fileN : T := .mk 1 false [] [] []
theorem isB_no (w : World) : IsB w none 0 0 [] := ⟨rfl, .inl rfl, fun _ => ⟨rfl, rfl⟩, ⟨Nat.le_refl _, Nat.zero_le _⟩, Nat.zero_le _⟩
theorem isS_no (w : World) : IsS w none 0 0 [] := ⟨rfl, .inl rfl, fun _ => ⟨rfl, rfl⟩, ⟨Nat.le_refl _, Nat.zero_le _⟩⟩
theorem isK_no (R : List Value → T → Prop) (w : World) : IsK R w none 0 0 [] := ⟨rfl, .inl rfl, fun _ => ⟨rfl, rfl⟩, ⟨Nat.le_refl _, Nat.zero_le _⟩⟩
theorem isT_fileN (w : World) (n : Nat) : IsT w (n + 1) [.int .u8 1, .bool false, .slice none 0 0, .slice none 0 0, .slice none 0 0] fileN :=
  ⟨none, 0, 0, none, 0, 0, none, 0, 0, rfl, isB_no w, isS_no w, isK_no _ w⟩
theorem form_fileN : formedT fileN = true := by rw [fileN, formedT_other (by decide)]; rfl
theorem size_fileN : (sizeT fileN).isSome = true := by
  have := form_fileN
  unfold sizeT
  rw [fileN] at this ⊢
  rw [takeT_mk, this]; simp [takeL]
theorem arch_fileN : archT fileN = [13, 0, 0, 0, 0, 0, 0, 0, 110, 105, 120, 45, 97, 114, 99, 104, 105, 118, 101, 45, 49, 0, 0, 0] ++ (strN sOpen ++ (strN sType ++ (strN sRegular ++ (strN sContents ++ (strN [] ++ (strN sClose ++ [])))))) := by
  have h := node_file [] [] [] []
  rw [List.append_nil] at h
  unfold archT fileN
  rw [h]; rfl
theorem arch_fileN_len : (archT fileN).length = 112 := by rw [arch_fileN]; rfl

/-- A part of a row of bytes, as a slice of bytes. -/
theorem row_sub {w : World} {B g n cap : Nat} {L : List UInt8} (h : w.ownsRow B 5 1 (.slice (some ⟨g, 0, none⟩) n cap) n (L.map bv)) (hm : n ≤ 140737488355328) (off len c : Nat) (hl : off + len ≤ n) (hc : len ≤ c) (hc2 : c ≤ maxLen) :
    IsB w (some ⟨g, off, none⟩) len c ((L.drop off).take len) := by
  have hn : L.length = n := by have := h.1; rw [List.length_map] at this; omega
  have hlt : g < w.heap.size := by
    rcases h.2 with ⟨h0, _⟩ | ⟨g', cap', cur', he, _, hg, _⟩
    · cases h0
    · cases he; exact (Array.getElem?_eq_some_iff.1 hg).1
  refine ⟨by rw [List.length_take, List.length_drop]; omega, .inr ⟨g, off, rfl, hlt, fun i hi => ?_⟩, (fun e => by cases e), ⟨hc, hc2⟩, by omega⟩
  rw [World.ownsRow.cellAt h (off + i) (by omega), List.getElem?_map, List.getD_eq_getElem?_getD, List.getElem?_take_of_lt hi, List.getElem?_drop, List.getElem?_eq_getElem (by omega)]
  rfl

set_option maxRecDepth 100000 in
set_option maxHeartbeats 8000000 in
theorem awake_any (w : World) :
    Calls Try.prog 7 #[] w fun e w' => e = .returned (.bool true) ∧ Below w.heap.size w w' := by
  go_enter Try.func7, Try.ntmps7
  go_wp2_with fail
  have HP := Lib.hid (write_any 1 _ fileN w (isT_fileN w 0))
  refine HP.out.mono ?_
  rintro e w1 ⟨b1, h⟩
  obtain ⟨g, cap, rfl, ho⟩ : ∃ g cap, e = .returned (.tuple #[.slice (some ⟨g, 0, none⟩) 112 cap, .int .i64 0]) ∧ w1.ownsRow w.heap.size 5 1 (.slice (some ⟨g, 0, none⟩) 112 cap) 112 ((archT fileN).map bv) := by
    rcases h with ⟨h0, _⟩ | ⟨_, g, cap, he, ho⟩
    · have := size_fileN; rw [h0] at this; cases this
    · rw [arch_fileN_len] at he ho; exact ⟨g, cap, he, ho⟩
  have HB := Lib.hid b1
  have HO := Lib.hid ho
  have hcap : 112 ≤ cap ∧ cap ≤ maxLen := by
    rcases ho.2 with ⟨h0, _⟩ | ⟨g', cap', cur', he, _, _, h1, h2, _⟩
    · cases h0
    · cases he; exact ⟨h1, h2⟩
  have hc0 : w1.cell? ⟨g, 0, none⟩ = some (.int .u8 13) := by
    rw [World.ownsRow.cellAt ho 0 (by omega), arch_fileN]; rfl
  have hcv : (convert 22 9 (.slice (some ⟨g, 8, none⟩) 13 (cap - 8))).run Try.prog w1 = .ok (.string ⟨#[110, 105, 120, 45, 97, 114, 99, 104, 105, 118, 101, 45, 49]⟩) w1 := by
    have := convert_b (row_sub ho (by omega) 8 13 (cap - 8) (by omega) (by omega) (by omega))
    rw [arch_fileN] at this
    exact this
  have hcap1 := hcap.1
  have hcap2 := hcap.2
  unfold maxLen at hcap2
  clear h ho b1 HP hcap
  go_wp2_with fail
  go_ret
  exact ⟨rfl, HB.out⟩

end Go.Proofs.Ythjihibocobndaa
