/-
  What a derivation may need: few paths that rise. Conditions: bounds on the texts' sizes.
-/
import Derived.Test.YtokbakpbhpknfaaGreatDoorDvNameN
import Derived.Deep.LoopGhost
import Derived.Test.YtokbakpbhpknfaaGreatDoorDvLisN
namespace Go.Proofs.YtokbakpbhpknfaaGreatDoor
open Go.RowKit
set_option linter.unusedVariables false

/-- Is the one text not below the other? -/
def geB (s p : ByteArray) : Bool := !Op.bytesLess p.toList s.toList
/-- Do they rise, and are all of a sort, up to a place? -/
def needTo (is : List UInt8 → Bool) (l : List ByteArray) (k : Nat) : Prop := ∀ i, i < k → is (l.getD i ⟨#[]⟩).data.toList = true ∧ (1 ≤ i → geB (l.getD i ⟨#[]⟩) (l.getD (i - 1) ⟨#[]⟩) = false)
def needT (is : List UInt8 → Bool) (l : List ByteArray) : Bool := decide (l.length ≤ 32) && (List.range l.length).all fun i => is (l.getD i ⟨#[]⟩).data.toList && (i == 0 || !geB (l.getD i ⟨#[]⟩) (l.getD (i - 1) ⟨#[]⟩))
theorem needTo_step {is : List UInt8 → Bool} {l : List ByteArray} {k : Nat} (h : needTo is l k) (h1 : is (l.getD k ⟨#[]⟩).data.toList = true) (h2 : 1 ≤ k → geB (l.getD k ⟨#[]⟩) (l.getD (k - 1) ⟨#[]⟩) = false) : needTo is l (k + 1) := fun i hi => by
  rcases Nat.lt_or_ge i k with h' | h'
  · exact h i h'
  · obtain rfl : i = k := by omega
    exact ⟨h1, h2⟩
theorem needT_good {is : List UInt8 → Bool} {l : List ByteArray} (hl : l.length ≤ 32) (h : needTo is l l.length) : needT is l = true := by
  unfold needT
  rw [decide_eq_true hl, Bool.true_and, List.all_eq_true]
  intro i hi
  obtain ⟨h1, h2⟩ := h i (List.mem_range.1 hi)
  rw [h1]
  rcases Nat.eq_zero_or_pos i with rfl | h0
  · rfl
  · rw [h2 h0]; simp
theorem needT_long {is : List UInt8 → Bool} {l : List ByteArray} (hl : ¬ l.length ≤ 32) : needT is l = false := by unfold needT; rw [decide_eq_false hl, Bool.false_and]
theorem needT_sort {is : List UInt8 → Bool} {l : List ByteArray} {i : Nat} (hi : i < l.length) (h : is (l.getD i ⟨#[]⟩).data.toList = false) : needT is l = false := by
  unfold needT
  rw [Bool.and_eq_false_iff]; right
  rw [List.all_eq_false]
  exact ⟨i, List.mem_range.2 hi, by rw [h]; simp⟩
theorem needT_less {is : List UInt8 → Bool} {l : List ByteArray} {i : Nat} (hi : i < l.length) (h0 : 1 ≤ i) (h : geB (l.getD i ⟨#[]⟩) (l.getD (i - 1) ⟨#[]⟩) = true) : needT is l = false := by
  unfold needT
  rw [Bool.and_eq_false_iff]; right
  rw [List.all_eq_false]
  refine ⟨i, List.mem_range.2 hi, ?_⟩
  rw [h]
  have : (i == 0) = false := by rw [beq_eq_false_iff_ne]; omega
  rw [this]; simp
def isP (l : List UInt8) : Bool := (Nam.parseP l).isSome

set_option maxRecDepth 100000 in
set_option maxHeartbeats 8000000 in
theorem needs_drvs (a : Option Addr) (n cap : Nat) (l : List ByteArray) (w : World) (hl : IsS w a n cap l) (hs : ∀ s ∈ l, s.size ≤ 140737488355328) :
    Calls Tryz.prog 42 #[.slice a n cap, .func (.func 13) #[] #[]] w fun e w' => e = .returned (.bool (needT dPath l)) ∧ Below w.heap.size w w' := by
  have HL := Lib.hid hl
  have hln := hl.length
  have HLN := Lib.hid hln
  have HSZ := Lib.hid hs
  clear hl hs
  obtain ⟨r, hr⟩ : ∃ r, r = needT dPath l := ⟨_, rfl⟩
  rw [← hr]
  have HRR := Lib.hid hr
  clear hr
  by_cases h32 : n ≤ 32
  · have h32' : ¬ (32 : Int) < (n : Int) := by omega
    go_enter Tryz.func42, Tryz.ntmps42
    go_wp2_with fail
    go_loopg [5, 6, 12] n (fun gk v5 v6 v12 wr => ∃ k : Nat, gk = n - k ∧ k ≤ n ∧ v12 = .int .i64 (k : Int) ∧ Hid (needTo dPath l k) ∧ Below w.heap.size w wr)
    case atStart => exact ⟨0, rfl, Nat.zero_le _, rfl, Lib.hid (fun i hi => by omega), Below.refl _ _⟩
    case round =>
      obtain ⟨k, rfl, hk, rfl, HOK, hb⟩ := hrel
      have HB := Lib.hid hb
      by_cases hlt : k < n
      · rcases HL.out.at_ with h0 | ⟨b, off, rfl, hbl, hc⟩
        · omega
        have hck := (hb.cell (p := ⟨b, off + k, none⟩) hbl).trans (hc k hlt)
        have hkl : Hid (k < l.length) := Lib.hid (by rw [HLN.out]; exact hlt)
        obtain ⟨s, hs⟩ : ∃ s, s = l.getD k ⟨#[]⟩ := ⟨_, rfl⟩
        have hsz : s.size ≤ 140737488355328 := HSZ.out s (by rw [hs, List.getD_eq_getElem?_getD, List.getElem?_eq_getElem hkl.out]; exact List.getElem_mem hkl.out)
        rw [← hs] at hck
        have HS := Lib.hid hs
        have hki : (k : Int) < (n : Int) := by omega
        have hwk : IntKind.i64.wrap ((k : Int) + 1) = ((k + 1 : Nat) : Int) := by rw [IntKind.wrap_i64]; omega
        have hk := (fun w => ispath_any s w (by omega))
        have HK := Lib.hid hk
        clear hs hk
        cases hn : dPath s.data.toList
        · have HR : Hid (r = false) := Lib.hid (by rw [HRR.out]; exact needT_sort hkl.out (by rw [← HS.out]; exact hn))
          rw [show dPath s.data.toList = dPath s.data.toList from rfl, hn] at HK
          clear hn hc hb hsz
          go_wp2_with fail
          refine (HK.out _).mono ?_
          rintro e w1 ⟨rfl, b1⟩
          have B1 : Hid (Below w.heap.size w w1) := Lib.hid (HB.out.trans (b1.mono HB.out.size))
          clear b1 HK hck
          go_wp2_with fail
          go_ret
          exact ⟨by rw [HR.out]; rfl, B1.out⟩
        · have HN := Lib.hid hn
          rw [show dPath s.data.toList = dPath s.data.toList from rfl, hn] at HK
          clear hn
          rcases Nat.eq_zero_or_pos k with h0 | hpos
          · have hpi : ¬ (0 : Int) < (k : Int) := by omega
            have HST := Lib.hid (needTo_step HOK.out (by rw [← HS.out]; exact HN.out) (fun h => by omega))
            clear hc h0 hb hsz
            go_wp2_with fail
            refine (HK.out _).mono ?_
            rintro e w1 ⟨rfl, b1⟩
            have B1 : Hid (Below w.heap.size w w1) := Lib.hid (HB.out.trans (b1.mono HB.out.size))
            clear b1 HK hck
            go_wp2_with fail
            go_roundg (n - (k + 1))
            case rel => exact ⟨k + 1, rfl, by omega, rfl, HST, B1.out⟩
            case measure => omega
          · obtain ⟨p, hp⟩ : ∃ p, p = l.getD (k - 1) ⟨#[]⟩ := ⟨_, rfl⟩
            have HP := Lib.hid hp
            have hcp := hc (k - 1) (by omega)
            rw [← hp] at hcp
            obtain ⟨j, rfl⟩ : ∃ j, k = j + 1 := ⟨k - 1, by omega⟩
            rw [Nat.add_sub_cancel] at hcp
            have HCP := Lib.hid hcp
            have hwr : IntKind.i64.wrap (((j + 1 : Nat) : Int) - 1) = (j : Int) := by rw [IntKind.wrap_i64]; omega
            have hpi : (0 : Int) < ((j + 1 : Nat) : Int) := by omega
            have hjn : (j : Int) < (n : Int) := by omega
            clear hc hp hb hsz hcp
            have HBL := Lib.hid hbl
            cases hle : geB s p
            · have hl1 : Op.bytesLess p.toList s.toList = true := by
                unfold geB at hle; simpa using hle
              have HST := Lib.hid (needTo_step HOK.out (by rw [← HS.out]; exact HN.out) (fun _ => by rw [← HS.out, Nat.add_sub_cancel]; rw [Nat.add_sub_cancel] at HP; rw [← HP.out]; exact hle))
              clear hle
              go_wp2_with fail
              refine (HK.out _).mono ?_
              rintro e w1 ⟨rfl, b1⟩
              have B1 : Hid (Below w.heap.size w w1) := Lib.hid (HB.out.trans (b1.mono HB.out.size))
              have hcp1 : w1.cell? ⟨b, off + j, none⟩ = some (.string p) := (B1.out.cell (p := ⟨b, off + j, none⟩) HBL.out).trans HCP.out
              clear b1 HK hck
              go_wp2_with fail
              go_roundg (n - (j + 1 + 1))
              case rel => exact ⟨j + 1 + 1, rfl, by omega, rfl, HST, B1.out⟩
              case measure => omega
            · have HR : Hid (r = false) := Lib.hid (by rw [HRR.out]; exact needT_less hkl.out (by omega) (by rw [← HS.out, Nat.add_sub_cancel]; rw [Nat.add_sub_cancel] at HP; rw [← HP.out]; exact hle))
              have hl1 : Op.bytesLess p.toList s.toList = false := by unfold geB at hle; simpa using hle
              clear hle
              go_wp2_with fail
              refine (HK.out _).mono ?_
              rintro e w1 ⟨rfl, b1⟩
              have B1 : Hid (Below w.heap.size w w1) := Lib.hid (HB.out.trans (b1.mono HB.out.size))
              have hcp1 : w1.cell? ⟨b, off + j, none⟩ = some (.string p) := (B1.out.cell (p := ⟨b, off + j, none⟩) HBL.out).trans HCP.out
              clear b1 HK hck
              go_wp2_with fail
              go_ret
              exact ⟨by rw [HR.out]; rfl, B1.out⟩
      · have HR : Hid (r = true) := Lib.hid (by
          obtain rfl : k = n := by omega
          rw [HRR.out]; exact needT_good (by rw [HLN.out]; exact h32) (by rw [HLN.out]; exact HOK.out))
        clear hb
        go_wp2_with fail
        go_ret
        exact ⟨by rw [HR.out]; rfl, HB.out⟩
  · have h32' : (32 : Int) < (n : Int) := by omega
    have HR : Hid (r = false) := Lib.hid (by rw [HRR.out]; exact needT_long (by rw [HLN.out]; exact h32))
    go_enter Tryz.func42, Tryz.ntmps42
    go_wp2_with fail
    go_ret
    exact ⟨by rw [HR.out]; rfl, Below.refl _ _⟩

set_option maxRecDepth 100000 in
set_option maxHeartbeats 8000000 in
theorem needs_srcs (a : Option Addr) (n cap : Nat) (l : List ByteArray) (w : World) (hl : IsS w a n cap l) (hs : ∀ s ∈ l, s.size ≤ 140737488355328) :
    Calls Tryz.prog 42 #[.slice a n cap, .func (.func 43) #[] #[]] w fun e w' => e = .returned (.bool (needT isP l)) ∧ Below w.heap.size w w' := by
  have HL := Lib.hid hl
  have hln := hl.length
  have HLN := Lib.hid hln
  have HSZ := Lib.hid hs
  clear hl hs
  obtain ⟨r, hr⟩ : ∃ r, r = needT isP l := ⟨_, rfl⟩
  rw [← hr]
  have HRR := Lib.hid hr
  clear hr
  by_cases h32 : n ≤ 32
  · have h32' : ¬ (32 : Int) < (n : Int) := by omega
    go_enter Tryz.func42, Tryz.ntmps42
    go_wp2_with fail
    go_loopg [5, 6, 12] n (fun gk v5 v6 v12 wr => ∃ k : Nat, gk = n - k ∧ k ≤ n ∧ v12 = .int .i64 (k : Int) ∧ Hid (needTo isP l k) ∧ Below w.heap.size w wr)
    case atStart => exact ⟨0, rfl, Nat.zero_le _, rfl, Lib.hid (fun i hi => by omega), Below.refl _ _⟩
    case round =>
      obtain ⟨k, rfl, hk, rfl, HOK, hb⟩ := hrel
      have HB := Lib.hid hb
      by_cases hlt : k < n
      · rcases HL.out.at_ with h0 | ⟨b, off, rfl, hbl, hc⟩
        · omega
        have hck := (hb.cell (p := ⟨b, off + k, none⟩) hbl).trans (hc k hlt)
        have hkl : Hid (k < l.length) := Lib.hid (by rw [HLN.out]; exact hlt)
        obtain ⟨s, hs⟩ : ∃ s, s = l.getD k ⟨#[]⟩ := ⟨_, rfl⟩
        have hsz : s.size ≤ 140737488355328 := HSZ.out s (by rw [hs, List.getD_eq_getElem?_getD, List.getElem?_eq_getElem hkl.out]; exact List.getElem_mem hkl.out)
        rw [← hs] at hck
        have HS := Lib.hid hs
        have hki : (k : Int) < (n : Int) := by omega
        have hwk : IntKind.i64.wrap ((k : Int) + 1) = ((k + 1 : Nat) : Int) := by rw [IntKind.wrap_i64]; omega
        have hk := (fun w => Nam.is_any s w)
        have HK := Lib.hid hk
        clear hs hk
        cases hn : isP s.data.toList
        · have HR : Hid (r = false) := Lib.hid (by rw [HRR.out]; exact needT_sort hkl.out (by rw [← HS.out]; exact hn))
          rw [show (Nam.parseP s.data.toList).isSome = isP s.data.toList from rfl, hn] at HK
          clear hn hc hb hsz
          go_wp2_with fail
          refine (HK.out _).mono ?_
          rintro e w1 ⟨rfl, b1⟩
          have B1 : Hid (Below w.heap.size w w1) := Lib.hid (HB.out.trans (b1.mono HB.out.size))
          clear b1 HK hck
          go_wp2_with fail
          go_ret
          exact ⟨by rw [HR.out]; rfl, B1.out⟩
        · have HN := Lib.hid hn
          rw [show (Nam.parseP s.data.toList).isSome = isP s.data.toList from rfl, hn] at HK
          clear hn
          rcases Nat.eq_zero_or_pos k with h0 | hpos
          · have hpi : ¬ (0 : Int) < (k : Int) := by omega
            have HST := Lib.hid (needTo_step HOK.out (by rw [← HS.out]; exact HN.out) (fun h => by omega))
            clear hc h0 hb hsz
            go_wp2_with fail
            refine (HK.out _).mono ?_
            rintro e w1 ⟨rfl, b1⟩
            have B1 : Hid (Below w.heap.size w w1) := Lib.hid (HB.out.trans (b1.mono HB.out.size))
            clear b1 HK hck
            go_wp2_with fail
            go_roundg (n - (k + 1))
            case rel => exact ⟨k + 1, rfl, by omega, rfl, HST, B1.out⟩
            case measure => omega
          · obtain ⟨p, hp⟩ : ∃ p, p = l.getD (k - 1) ⟨#[]⟩ := ⟨_, rfl⟩
            have HP := Lib.hid hp
            have hcp := hc (k - 1) (by omega)
            rw [← hp] at hcp
            obtain ⟨j, rfl⟩ : ∃ j, k = j + 1 := ⟨k - 1, by omega⟩
            rw [Nat.add_sub_cancel] at hcp
            have HCP := Lib.hid hcp
            have hwr : IntKind.i64.wrap (((j + 1 : Nat) : Int) - 1) = (j : Int) := by rw [IntKind.wrap_i64]; omega
            have hpi : (0 : Int) < ((j + 1 : Nat) : Int) := by omega
            have hjn : (j : Int) < (n : Int) := by omega
            clear hc hp hb hsz hcp
            have HBL := Lib.hid hbl
            cases hle : geB s p
            · have hl1 : Op.bytesLess p.toList s.toList = true := by
                unfold geB at hle; simpa using hle
              have HST := Lib.hid (needTo_step HOK.out (by rw [← HS.out]; exact HN.out) (fun _ => by rw [← HS.out, Nat.add_sub_cancel]; rw [Nat.add_sub_cancel] at HP; rw [← HP.out]; exact hle))
              clear hle
              go_wp2_with fail
              refine (HK.out _).mono ?_
              rintro e w1 ⟨rfl, b1⟩
              have B1 : Hid (Below w.heap.size w w1) := Lib.hid (HB.out.trans (b1.mono HB.out.size))
              have hcp1 : w1.cell? ⟨b, off + j, none⟩ = some (.string p) := (B1.out.cell (p := ⟨b, off + j, none⟩) HBL.out).trans HCP.out
              clear b1 HK hck
              go_wp2_with fail
              go_roundg (n - (j + 1 + 1))
              case rel => exact ⟨j + 1 + 1, rfl, by omega, rfl, HST, B1.out⟩
              case measure => omega
            · have HR : Hid (r = false) := Lib.hid (by rw [HRR.out]; exact needT_less hkl.out (by omega) (by rw [← HS.out, Nat.add_sub_cancel]; rw [Nat.add_sub_cancel] at HP; rw [← HP.out]; exact hle))
              have hl1 : Op.bytesLess p.toList s.toList = false := by unfold geB at hle; simpa using hle
              clear hle
              go_wp2_with fail
              refine (HK.out _).mono ?_
              rintro e w1 ⟨rfl, b1⟩
              have B1 : Hid (Below w.heap.size w w1) := Lib.hid (HB.out.trans (b1.mono HB.out.size))
              have hcp1 : w1.cell? ⟨b, off + j, none⟩ = some (.string p) := (B1.out.cell (p := ⟨b, off + j, none⟩) HBL.out).trans HCP.out
              clear b1 HK hck
              go_wp2_with fail
              go_ret
              exact ⟨by rw [HR.out]; rfl, B1.out⟩
      · have HR : Hid (r = true) := Lib.hid (by
          obtain rfl : k = n := by omega
          rw [HRR.out]; exact needT_good (by rw [HLN.out]; exact h32) (by rw [HLN.out]; exact HOK.out))
        clear hb
        go_wp2_with fail
        go_ret
        exact ⟨by rw [HR.out]; rfl, HB.out⟩
  · have h32' : (32 : Int) < (n : Int) := by omega
    have HR : Hid (r = false) := Lib.hid (by rw [HRR.out]; exact needT_long (by rw [HLN.out]; exact h32))
    go_enter Tryz.func42, Tryz.ntmps42
    go_wp2_with fail
    go_ret
    exact ⟨by rw [HR.out]; rfl, Below.refl _ _⟩
end Go.Proofs.YtokbakpbhpknfaaGreatDoor

namespace Go.Proofs.YtokbakpbhpknfaaGreatDoor
open Go.RowKit
set_option linter.unusedVariables false

theorem ends_name {l d n : List UInt8} (h : Nam.parseP l = some (d, n)) : endsD l = endsD n := by
  unfold Nam.parseP at h
  split at h
  · rename_i hc
    obtain ⟨h1, h2, h3⟩ := hc
    simp only [Option.map_eq_some_iff, Prod.mk.injEq] at h
    obtain ⟨_, _, _, hn⟩ := h
    unfold Nam.dash at h2
    simp only [Bool.and_eq_true, decide_eq_true_eq, beq_iff_eq] at h2
    obtain ⟨h4, h5⟩ := h2
    have hd : l.drop 32 = 45 :: n := by
      rw [← hn]
      cases he : l.drop 32 with
      | nil => rw [he] at h4; simp at h4
      | cons x t =>
        rw [he] at h5
        have hx : x = 45 := by simpa using h5
        have : l.drop 33 = t := by
          have := congrArg List.tail he
          rw [List.tail_drop] at this; simpa using this
        rw [hx, this]
    have hl : l = l.take 32 ++ 45 :: n := by rw [← hd, List.take_append_drop]
    have hsl : (45 :: n) <:+ l := ⟨l.take 32, hl.symm⟩
    have hsn : n <:+ l := ⟨l.take 32 ++ [45], by rw [List.append_assoc]; exact hl.symm⟩
    unfold endsD
    rw [Bool.eq_iff_iff, List.isSuffixOf_iff_suffix, List.isSuffixOf_iff_suffix]
    constructor
    · intro he
      rcases Nat.lt_or_ge n.length 4 with h6 | h6
      · exfalso
        have := List.suffix_of_suffix_length_le hsl he (by simp [dExt]; omega)
        have := this.mem (List.mem_cons_self : (45 : UInt8) ∈ 45 :: n)
        revert this; decide
      · exact List.suffix_of_suffix_length_le he hsn (by simpa [dExt] using h6)
    · intro he; exact he.trans hsn
  · cases h
theorem dPath_eq (l : List UInt8) : dPath l = (isP l && endsD l) := by
  unfold dPath isP
  cases h : Nam.parseP l with
  | none => rfl
  | some p => obtain ⟨d, n⟩ := p; simp only [Option.isSome_some, Bool.true_and]; exact (ends_name h).symm

/-- Is it right? -/
def formB (s0 : ByteArray) (l1 l2 : List ByteArray) (s3 s4 : ByteArray) : Bool := dName s0.data.toList && needT dPath l1 && needT isP l2 && decide (s3.size ≤ 6000) && dFixed s4.data.toList
def formD (D : Dv) : Bool := formB (bs D.name) (D.drvs.map bs) (D.srcs.map bs) (bs D.recipe) (bs D.fixed)
theorem needT_take (is : List UInt8 → Bool) (l : List ByteArray) : needT is (l.take 33) = needT is l := by
  by_cases h : l.length ≤ 32
  · rw [List.take_of_length_le (by omega)]
  · rw [needT_long h, needT_long (by rw [List.length_take]; omega)]
/-- What a right one has. -/
theorem needT_len {is : List UInt8 → Bool} {l : List ByteArray} (h : needT is l = true) : l.length ≤ 32 ∧ ∀ s ∈ l, is s.data.toList = true := by
  unfold needT at h
  rw [Bool.and_eq_true, decide_eq_true_eq, List.all_eq_true] at h
  obtain ⟨h1, h2⟩ := h
  refine ⟨h1, fun s hs => ?_⟩
  obtain ⟨i, hi, rfl⟩ := List.getElem_of_mem hs
  have := h2 i (List.mem_range.2 hi)
  rw [Bool.and_eq_true] at this
  have h3 := this.1
  rw [List.getD_eq_getElem?_getD, List.getElem?_eq_getElem hi] at h3
  exact h3
theorem isName_len {l : List UInt8} (h : Nam.isName l = true) : l.length ≤ 40 := by
  unfold Nam.isName at h
  simp only [Bool.and_eq_true, decide_eq_true_eq] at h
  omega
theorem isP_len {l : List UInt8} (h : isP l = true) : l.length ≤ 73 := by
  unfold isP Nam.parseP at h
  split at h
  · rename_i hc
    have := isName_len hc.2.2
    rw [List.length_drop] at this; omega
  · cases h
theorem dPath_len {l : List UInt8} (h : dPath l = true) : l.length ≤ 73 := by
  rw [dPath_eq, Bool.and_eq_true] at h; exact isP_len h.1
end Go.Proofs.YtokbakpbhpknfaaGreatDoor
