/-
  What a derivation may need: few paths that rise. Conditions: bounds on the texts' sizes.
-/
import Derived.Test.YtokbakpbhpknfaaDvPath
import Derived.Deep.LoopGhost
namespace Go.Proofs.Ytokbakpbhpknfaa
open Go.RowKit
set_option linter.unusedVariables false

/-- Is the one text not below the other? -/
def geB (s p : ByteArray) : Bool := !Op.bytesLess p.toList s.toList
/-- Do they rise, and are all of a sort, up to a place? -/
def needTo (is : List UInt8 → Bool) (l : List ByteArray) (k : Nat) : Prop := ∀ i, i < k → is (l.getD i ⟨#[]⟩).data.toList = true ∧ (1 ≤ i → geB (l.getD i ⟨#[]⟩) (l.getD (i - 1) ⟨#[]⟩) = false)
def needT (is : List UInt8 → Bool) (l : List ByteArray) : Bool := decide (l.length ≤ 32) && (List.range l.length).all fun i => is (l.getD i ⟨#[]⟩).data.toList && (i == 0 || !geB (l.getD i ⟨#[]⟩) (l.getD (i - 1) ⟨#[]⟩))
theorem needTo_step {is : List UInt8 → Bool} {l : List ByteArray} {k : Nat} (h : needTo is l k) (h1 : is (l.getD k ⟨#[]⟩).data.toList = true) (h2 : 1 ≤ k → geB (l.getD k ⟨#[]⟩) (l.getD (k - 1) ⟨#[]⟩) = false) : needTo is l (k + 1) := fun i hi => by
  rcases Nat.lt_or_ge i k with h' | h'
  · exact h i h'
  · obtain rfl : i = k := by omega
    exact ⟨h1, h2⟩
theorem needT_good {is : List UInt8 → Bool} {l : List ByteArray} (hl : l.length ≤ 32) (h : needTo is l l.length) : needT is l = true := by
  unfold needT
  rw [decide_eq_true hl, Bool.true_and, List.all_eq_true]
  intro i hi
  obtain ⟨h1, h2⟩ := h i (List.mem_range.1 hi)
  rw [h1]
  rcases Nat.eq_zero_or_pos i with rfl | h0
  · rfl
  · rw [h2 h0]; simp
theorem needT_long {is : List UInt8 → Bool} {l : List ByteArray} (hl : ¬ l.length ≤ 32) : needT is l = false := by unfold needT; rw [decide_eq_false hl, Bool.false_and]
theorem needT_sort {is : List UInt8 → Bool} {l : List ByteArray} {i : Nat} (hi : i < l.length) (h : is (l.getD i ⟨#[]⟩).data.toList = false) : needT is l = false := by
  unfold needT
  rw [Bool.and_eq_false_iff]; right
  rw [List.all_eq_false]
  exact ⟨i, List.mem_range.2 hi, by rw [h]; simp⟩
theorem needT_less {is : List UInt8 → Bool} {l : List ByteArray} {i : Nat} (hi : i < l.length) (h0 : 1 ≤ i) (h : geB (l.getD i ⟨#[]⟩) (l.getD (i - 1) ⟨#[]⟩) = true) : needT is l = false := by
  unfold needT
  rw [Bool.and_eq_false_iff]; right
  rw [List.all_eq_false]
  refine ⟨i, List.mem_range.2 hi, ?_⟩
  rw [h]
  have : (i == 0) = false := by rw [beq_eq_false_iff_ne]; omega
  rw [this]; simp
def isP (l : List UInt8) : Bool := (Nam.parseP l).isSome

set_option maxRecDepth 100000 in
set_option maxHeartbeats 8000000 in
theorem needs_drvs (a : Option Addr) (n cap : Nat) (l : List ByteArray) (w : World) (hl : IsS w a n cap l) (hs : ∀ s ∈ l, s.size ≤ 140737488355328) :
    Calls Try.prog 14 #[.slice a n cap, .func (.func 15) #[] #[]] w fun e w' => e = .returned (.bool (needT dPath l)) ∧ Below w.heap.size w w' := by
  have HL := Lib.hid hl
  have hln := hl.length
  have HLN := Lib.hid hln
  have HSZ := Lib.hid hs
  clear hl hs
  obtain ⟨r, hr⟩ : ∃ r, r = needT dPath l := ⟨_, rfl⟩
  rw [← hr]
  have HRR := Lib.hid hr
  clear hr
  by_cases h32 : n ≤ 32
  · have h32' : ¬ (32 : Int) < (n : Int) := by omega
    go_enter Try.func14, Try.ntmps14
    go_wp2_with fail
    go_loopg [5, 6, 12] n (fun gk v5 v6 v12 wr => ∃ k : Nat, gk = n - k ∧ k ≤ n ∧ v12 = .int .i64 (k : Int) ∧ Hid (needTo dPath l k) ∧ Below w.heap.size w wr)
    case atStart => exact ⟨0, rfl, Nat.zero_le _, rfl, Lib.hid (fun i hi => by omega), Below.refl _ _⟩
    case round =>
      obtain ⟨k, rfl, hk, rfl, HOK, hb⟩ := hrel
      have HB := Lib.hid hb
      by_cases hlt : k < n
      · rcases HL.out.at_ with h0 | ⟨b, off, rfl, hbl, hc⟩
        · omega
        have hck := (hb.cell (p := ⟨b, off + k, none⟩) hbl).trans (hc k hlt)
        have hkl : Hid (k < l.length) := Lib.hid (by rw [HLN.out]; exact hlt)
        obtain ⟨s, hs⟩ : ∃ s, s = l.getD k ⟨#[]⟩ := ⟨_, rfl⟩
        have hsz : s.size ≤ 140737488355328 := HSZ.out s (by rw [hs, List.getD_eq_getElem?_getD, List.getElem?_eq_getElem hkl.out]; exact List.getElem_mem hkl.out)
        rw [← hs] at hck
        have HS := Lib.hid hs
        have hki : (k : Int) < (n : Int) := by omega
        have hwk : IntKind.i64.wrap ((k : Int) + 1) = ((k + 1 : Nat) : Int) := by rw [IntKind.wrap_i64]; omega
        have hk := (fun w => ispath_any s w (by omega))
        have HK := Lib.hid hk
        clear hs hk
        cases hn : dPath s.data.toList
        · have HR : Hid (r = false) := Lib.hid (by rw [HRR.out]; exact needT_sort hkl.out (by rw [← HS.out]; exact hn))
          rw [show dPath s.data.toList = dPath s.data.toList from rfl, hn] at HK
          clear hn hc hb hsz
          go_wp2_with fail
          refine (HK.out _).mono ?_
          rintro e w1 ⟨rfl, b1⟩
          have B1 : Hid (Below w.heap.size w w1) := Lib.hid (HB.out.trans (b1.mono HB.out.size))
          clear b1 HK hck
          go_wp2_with fail
          go_ret
          exact ⟨by rw [HR.out]; rfl, B1.out⟩
        · have HN := Lib.hid hn
          rw [show dPath s.data.toList = dPath s.data.toList from rfl, hn] at HK
          clear hn
          rcases Nat.eq_zero_or_pos k with h0 | hpos
          · have hpi : ¬ (0 : Int) < (k : Int) := by omega
            have HST := Lib.hid (needTo_step HOK.out (by rw [← HS.out]; exact HN.out) (fun h => by omega))
            clear hc h0 hb hsz
            go_wp2_with fail
            refine (HK.out _).mono ?_
            rintro e w1 ⟨rfl, b1⟩
            have B1 : Hid (Below w.heap.size w w1) := Lib.hid (HB.out.trans (b1.mono HB.out.size))
            clear b1 HK hck
            go_wp2_with fail
            go_roundg (n - (k + 1))
            case rel => exact ⟨k + 1, rfl, by omega, rfl, HST, B1.out⟩
            case measure => omega
          · obtain ⟨p, hp⟩ : ∃ p, p = l.getD (k - 1) ⟨#[]⟩ := ⟨_, rfl⟩
            have HP := Lib.hid hp
            have hcp := hc (k - 1) (by omega)
            rw [← hp] at hcp
            obtain ⟨j, rfl⟩ : ∃ j, k = j + 1 := ⟨k - 1, by omega⟩
            rw [Nat.add_sub_cancel] at hcp
            have HCP := Lib.hid hcp
            have hwr : IntKind.i64.wrap (((j + 1 : Nat) : Int) - 1) = (j : Int) := by rw [IntKind.wrap_i64]; omega
            have hpi : (0 : Int) < ((j + 1 : Nat) : Int) := by omega
            have hjn : (j : Int) < (n : Int) := by omega
            clear hc hp hb hsz hcp
            have HBL := Lib.hid hbl
            cases hle : geB s p
            · have hl1 : Op.bytesLess p.toList s.toList = true := by
                unfold geB at hle; simpa using hle
              have HST := Lib.hid (needTo_step HOK.out (by rw [← HS.out]; exact HN.out) (fun _ => by rw [← HS.out, Nat.add_sub_cancel]; rw [Nat.add_sub_cancel] at HP; rw [← HP.out]; exact hle))
              clear hle
              go_wp2_with fail
              refine (HK.out _).mono ?_
              rintro e w1 ⟨rfl, b1⟩
              have B1 : Hid (Below w.heap.size w w1) := Lib.hid (HB.out.trans (b1.mono HB.out.size))
              have hcp1 : w1.cell? ⟨b, off + j, none⟩ = some (.string p) := (B1.out.cell (p := ⟨b, off + j, none⟩) HBL.out).trans HCP.out
              clear b1 HK hck
              go_wp2_with fail
              go_roundg (n - (j + 1 + 1))
              case rel => exact ⟨j + 1 + 1, rfl, by omega, rfl, HST, B1.out⟩
              case measure => omega
            · have HR : Hid (r = false) := Lib.hid (by rw [HRR.out]; exact needT_less hkl.out (by omega) (by rw [← HS.out, Nat.add_sub_cancel]; rw [Nat.add_sub_cancel] at HP; rw [← HP.out]; exact hle))
              have hl1 : Op.bytesLess p.toList s.toList = false := by unfold geB at hle; simpa using hle
              clear hle
              go_wp2_with fail
              refine (HK.out _).mono ?_
              rintro e w1 ⟨rfl, b1⟩
              have B1 : Hid (Below w.heap.size w w1) := Lib.hid (HB.out.trans (b1.mono HB.out.size))
              have hcp1 : w1.cell? ⟨b, off + j, none⟩ = some (.string p) := (B1.out.cell (p := ⟨b, off + j, none⟩) HBL.out).trans HCP.out
              clear b1 HK hck
              go_wp2_with fail
              go_ret
              exact ⟨by rw [HR.out]; rfl, B1.out⟩
      · have HR : Hid (r = true) := Lib.hid (by
          obtain rfl : k = n := by omega
          rw [HRR.out]; exact needT_good (by rw [HLN.out]; exact h32) (by rw [HLN.out]; exact HOK.out))
        clear hb
        go_wp2_with fail
        go_ret
        exact ⟨by rw [HR.out]; rfl, HB.out⟩
  · have h32' : (32 : Int) < (n : Int) := by omega
    have HR : Hid (r = false) := Lib.hid (by rw [HRR.out]; exact needT_long (by rw [HLN.out]; exact h32))
    go_enter Try.func14, Try.ntmps14
    go_wp2_with fail
    go_ret
    exact ⟨by rw [HR.out]; rfl, Below.refl _ _⟩

set_option maxRecDepth 100000 in
set_option maxHeartbeats 8000000 in
theorem needs_srcs (a : Option Addr) (n cap : Nat) (l : List ByteArray) (w : World) (hl : IsS w a n cap l) (hs : ∀ s ∈ l, s.size ≤ 140737488355328) :
    Calls Try.prog 14 #[.slice a n cap, .func (.func 16) #[] #[]] w fun e w' => e = .returned (.bool (needT isP l)) ∧ Below w.heap.size w w' := by
  have HL := Lib.hid hl
  have hln := hl.length
  have HLN := Lib.hid hln
  have HSZ := Lib.hid hs
  clear hl hs
  obtain ⟨r, hr⟩ : ∃ r, r = needT isP l := ⟨_, rfl⟩
  rw [← hr]
  have HRR := Lib.hid hr
  clear hr
  by_cases h32 : n ≤ 32
  · have h32' : ¬ (32 : Int) < (n : Int) := by omega
    go_enter Try.func14, Try.ntmps14
    go_wp2_with fail
    go_loopg [5, 6, 12] n (fun gk v5 v6 v12 wr => ∃ k : Nat, gk = n - k ∧ k ≤ n ∧ v12 = .int .i64 (k : Int) ∧ Hid (needTo isP l k) ∧ Below w.heap.size w wr)
    case atStart => exact ⟨0, rfl, Nat.zero_le _, rfl, Lib.hid (fun i hi => by omega), Below.refl _ _⟩
    case round =>
      obtain ⟨k, rfl, hk, rfl, HOK, hb⟩ := hrel
      have HB := Lib.hid hb
      by_cases hlt : k < n
      · rcases HL.out.at_ with h0 | ⟨b, off, rfl, hbl, hc⟩
        · omega
        have hck := (hb.cell (p := ⟨b, off + k, none⟩) hbl).trans (hc k hlt)
        have hkl : Hid (k < l.length) := Lib.hid (by rw [HLN.out]; exact hlt)
        obtain ⟨s, hs⟩ : ∃ s, s = l.getD k ⟨#[]⟩ := ⟨_, rfl⟩
        have hsz : s.size ≤ 140737488355328 := HSZ.out s (by rw [hs, List.getD_eq_getElem?_getD, List.getElem?_eq_getElem hkl.out]; exact List.getElem_mem hkl.out)
        rw [← hs] at hck
        have HS := Lib.hid hs
        have hki : (k : Int) < (n : Int) := by omega
        have hwk : IntKind.i64.wrap ((k : Int) + 1) = ((k + 1 : Nat) : Int) := by rw [IntKind.wrap_i64]; omega
        have hk := (fun w => Nam.is_any s w)
        have HK := Lib.hid hk
        clear hs hk
        cases hn : isP s.data.toList
        · have HR : Hid (r = false) := Lib.hid (by rw [HRR.out]; exact needT_sort hkl.out (by rw [← HS.out]; exact hn))
          rw [show (Nam.parseP s.data.toList).isSome = isP s.data.toList from rfl, hn] at HK
          clear hn hc hb hsz
          go_wp2_with fail
          refine (HK.out _).mono ?_
          rintro e w1 ⟨rfl, b1⟩
          have B1 : Hid (Below w.heap.size w w1) := Lib.hid (HB.out.trans (b1.mono HB.out.size))
          clear b1 HK hck
          go_wp2_with fail
          go_ret
          exact ⟨by rw [HR.out]; rfl, B1.out⟩
        · have HN := Lib.hid hn
          rw [show (Nam.parseP s.data.toList).isSome = isP s.data.toList from rfl, hn] at HK
          clear hn
          rcases Nat.eq_zero_or_pos k with h0 | hpos
          · have hpi : ¬ (0 : Int) < (k : Int) := by omega
            have HST := Lib.hid (needTo_step HOK.out (by rw [← HS.out]; exact HN.out) (fun h => by omega))
            clear hc h0 hb hsz
            go_wp2_with fail
            refine (HK.out _).mono ?_
            rintro e w1 ⟨rfl, b1⟩
            have B1 : Hid (Below w.heap.size w w1) := Lib.hid (HB.out.trans (b1.mono HB.out.size))
            clear b1 HK hck
            go_wp2_with fail
            go_roundg (n - (k + 1))
            case rel => exact ⟨k + 1, rfl, by omega, rfl, HST, B1.out⟩
            case measure => omega
          · obtain ⟨p, hp⟩ : ∃ p, p = l.getD (k - 1) ⟨#[]⟩ := ⟨_, rfl⟩
            have HP := Lib.hid hp
            have hcp := hc (k - 1) (by omega)
            rw [← hp] at hcp
            obtain ⟨j, rfl⟩ : ∃ j, k = j + 1 := ⟨k - 1, by omega⟩
            rw [Nat.add_sub_cancel] at hcp
            have HCP := Lib.hid hcp
            have hwr : IntKind.i64.wrap (((j + 1 : Nat) : Int) - 1) = (j : Int) := by rw [IntKind.wrap_i64]; omega
            have hpi : (0 : Int) < ((j + 1 : Nat) : Int) := by omega
            have hjn : (j : Int) < (n : Int) := by omega
            clear hc hp hb hsz hcp
            have HBL := Lib.hid hbl
            cases hle : geB s p
            · have hl1 : Op.bytesLess p.toList s.toList = true := by
                unfold geB at hle; simpa using hle
              have HST := Lib.hid (needTo_step HOK.out (by rw [← HS.out]; exact HN.out) (fun _ => by rw [← HS.out, Nat.add_sub_cancel]; rw [Nat.add_sub_cancel] at HP; rw [← HP.out]; exact hle))
              clear hle
              go_wp2_with fail
              refine (HK.out _).mono ?_
              rintro e w1 ⟨rfl, b1⟩
              have B1 : Hid (Below w.heap.size w w1) := Lib.hid (HB.out.trans (b1.mono HB.out.size))
              have hcp1 : w1.cell? ⟨b, off + j, none⟩ = some (.string p) := (B1.out.cell (p := ⟨b, off + j, none⟩) HBL.out).trans HCP.out
              clear b1 HK hck
              go_wp2_with fail
              go_roundg (n - (j + 1 + 1))
              case rel => exact ⟨j + 1 + 1, rfl, by omega, rfl, HST, B1.out⟩
              case measure => omega
            · have HR : Hid (r = false) := Lib.hid (by rw [HRR.out]; exact needT_less hkl.out (by omega) (by rw [← HS.out, Nat.add_sub_cancel]; rw [Nat.add_sub_cancel] at HP; rw [← HP.out]; exact hle))
              have hl1 : Op.bytesLess p.toList s.toList = false := by unfold geB at hle; simpa using hle
              clear hle
              go_wp2_with fail
              refine (HK.out _).mono ?_
              rintro e w1 ⟨rfl, b1⟩
              have B1 : Hid (Below w.heap.size w w1) := Lib.hid (HB.out.trans (b1.mono HB.out.size))
              have hcp1 : w1.cell? ⟨b, off + j, none⟩ = some (.string p) := (B1.out.cell (p := ⟨b, off + j, none⟩) HBL.out).trans HCP.out
              clear b1 HK hck
              go_wp2_with fail
              go_ret
              exact ⟨by rw [HR.out]; rfl, B1.out⟩
      · have HR : Hid (r = true) := Lib.hid (by
          obtain rfl : k = n := by omega
          rw [HRR.out]; exact needT_good (by rw [HLN.out]; exact h32) (by rw [HLN.out]; exact HOK.out))
        clear hb
        go_wp2_with fail
        go_ret
        exact ⟨by rw [HR.out]; rfl, HB.out⟩
  · have h32' : (32 : Int) < (n : Int) := by omega
    have HR : Hid (r = false) := Lib.hid (by rw [HRR.out]; exact needT_long (by rw [HLN.out]; exact h32))
    go_enter Try.func14, Try.ntmps14
    go_wp2_with fail
    go_ret
    exact ⟨by rw [HR.out]; rfl, Below.refl _ _⟩
end Go.Proofs.Ytokbakpbhpknfaa
