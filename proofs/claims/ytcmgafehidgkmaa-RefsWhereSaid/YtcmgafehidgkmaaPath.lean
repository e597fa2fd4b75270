/-
  The path of a digest and a name: the two Paths' contracts. Conditions: 20 bytes, the name's bound.
-/
import Derived.Test.YtcmgafehidgkmaaNames
import Derived.Test.YtcmgafehidgkmaaArr20
import Derived.Test.YtcmgafehidgkmaaREnc
import Derived.Below
namespace Go.Proofs.Ytcmgafehidgkmaa.Nam
open Go.RowKit
set_option linter.unusedVariables false

def pathB (d : List UInt8) (s : ByteArray) : ByteArray := (⟨(enc d).toArray⟩ ++ ⟨#[45]⟩) ++ s

theorem name_small {l : List UInt8} (h : isName l = true) : 1 ≤ l.length ∧ l.length ≤ 40 := by
  simp only [isName, Bool.and_eq_true, decide_eq_true_eq] at h
  exact ⟨h.1.1.1, h.1.1.2⟩

set_option maxRecDepth 100000 in
set_option maxHeartbeats 4000000 in
theorem rpath_yes (d : List UInt8) (s : ByteArray) (w : World) (hd : d.length = 20) (hs : s.size ≤ 40) :
    Calls Try.prog 17 #[.agg (d.map bv).toArray, .string s] w fun e w' => e = .returned (.string (pathB d s)) ∧ Below w.heap.size w w' := by
  obtain ⟨C, hC⟩ : ∃ C, C = (d.map bv).toArray := ⟨_, rfl⟩
  rw [← hC]
  have hel : (enc d).length = 32 := by rw [enc_length, hd]; rfl
  have hA : ¬ 9223372036854775807 < (enc d).length + 1 := by omega
  have hB : ¬ 9223372036854775807 < (enc d).length + 1 + s.size := by omega
  have HC := Lib.hid hC
  clear hC
  go_enter Try.func17, Try.ntmps17
  go_wp2_with fail
  have x1 : Has (w.alloc (.cells C 38)) w.heap.size (d.map bv) 38 := by rw [HC.out]; exact Has.new w _ _
  have b1 : Below w.heap.size w (w.alloc (.cells C 38)) := (Below.refl _ _).alloc (Nat.le_refl _) _
  have I1 := Has.isB x1 (by omega)
  rw [hd] at I1
  refine (rencode_b _ _ _ d _ I1 (by omega)).mono ?_
  rintro e w2 ⟨rfl, b2⟩
  have b3 : Below w.heap.size w w2 := b1.trans (b2.mono b1.size)
  clear x1 b1 b2 I1
  go_wp2_with fail
  go_ret
  exact ⟨rfl, b3⟩

theorem ext_data (s : ByteArray) (a b : Nat) : (s.extract a b).data.toList = (s.data.toList.drop a).take (b - a) := by
  rw [ByteArray.data_extract, Array.toList_extract]

theorem bytes_ext {s t : ByteArray} (h : s.data.toList = t.data.toList) : s = t := by
  cases s; cases t
  congr 1
  exact Array.toList_inj.1 h

/-- Does a text begin with a dash? -/
def dash (l : List UInt8) : Bool := decide (1 ≤ l.length) && (l.getD 0 0 == 45)

set_option maxRecDepth 100000 in
set_option maxHeartbeats 4000000 in
theorem prefix_dash (s : ByteArray) (w : World) :
    Calls Try.prog 72 #[.string s, .string ⟨#[45]⟩] w fun e w' => e = .returned (.bool (dash s.data.toList)) ∧ w = w' := by
  have hlen : s.data.toList.length = s.size := by simp
  by_cases h : 1 ≤ s.size
  · have h1 : decide ((1 : Int) ≤ (s.size : Int)) = true := by simp; omega
    have h2 : (1 : Int) ≤ (s.size : Int) := by omega
    have he : ((s.extract 0 1).toList == [45]) = dash s.data.toList := by
      rw [ByteArray.toList_eq, ext_data]
      cases hs : s.data.toList with
      | nil => rw [hs] at hlen; simp at hlen; omega
      | cons a t => simp [dash]
    have HE := Lib.hid he
    clear hlen he
    go_enter Try.func72, Try.ntmps72
    go_wp2_with fail
    go_ret
    exact ⟨by rw [← HE.out]; rfl, rfl⟩
  · have h1 : decide ((1 : Int) ≤ (s.size : Int)) = false := by simp; omega
    have hd : dash s.data.toList = false := by
      have : decide (1 ≤ s.data.toList.length) = false := by rw [hlen]; simpa using h
      simp only [dash, this, Bool.false_and]
    rw [hd]
    clear hlen hd
    go_enter Try.func72, Try.ntmps72
    go_wp2_with fail
    go_ret
    exact ⟨rfl, rfl⟩

def cutP (s : ByteArray) : Value := if dash s.data.toList = true then .tuple #[.string (s.extract 1 s.size), .bool true] else .tuple #[.string s, .bool false]

set_option maxRecDepth 100000 in
set_option maxHeartbeats 4000000 in
theorem cutl_dash (s : ByteArray) (w : World) :
    Calls Try.prog 68 #[.string s, .string ⟨#[45]⟩] w fun e w' => e = .returned (cutP s) ∧ w = w' := by
  obtain ⟨V, hV⟩ : ∃ V, V = cutP s := ⟨_, rfl⟩
  have HV := Lib.hid hV
  rw [← hV]
  clear hV
  cases hd : dash s.data.toList
  · have HD := Lib.hid hd
    clear hd
    go_enter Try.func68, Try.ntmps68
    go_wp2_with fail
    refine (prefix_dash s _).mono ?_
    rintro e w' ⟨rfl, rfl⟩
    rw [HD.out]
    go_wp2_with fail
    go_ret2
    refine ⟨?_, rfl⟩
    rw [HV.out]
    unfold cutP
    rw [if_neg (by rw [HD.out]; decide)]
    rfl
  · have HD := Lib.hid hd
    have h1 : (1 : Int) ≤ (s.size : Int) := by
      simp only [dash, Bool.and_eq_true, decide_eq_true_eq] at hd
      have hlen : s.data.toList.length = s.size := by simp
      omega
    clear hd
    go_enter Try.func68, Try.ntmps68
    go_wp2_with fail
    refine (prefix_dash s _).mono ?_
    rintro e w' ⟨rfl, rfl⟩
    rw [HD.out]
    go_wp2_with fail
    go_ret2
    refine ⟨?_, rfl⟩
    rw [HV.out]
    unfold cutP
    rw [if_pos HD.out]
    rfl

set_option maxRecDepth 100000 in
set_option maxHeartbeats 4000000 in
theorem cut_dash (s : ByteArray) (w : World) :
    Calls Try.prog 55 #[.string s, .string ⟨#[45]⟩] w fun e w' => e = .returned (cutP s) ∧ w = w' := by
  obtain ⟨V, hV⟩ : ∃ V, V = cutP s := ⟨_, rfl⟩
  have HV := Lib.hid hV
  obtain ⟨t, b, hp⟩ : ∃ t b, cutP s = .tuple #[.string t, .bool b] := by
    unfold cutP
    split
    · exact ⟨_, _, rfl⟩
    · exact ⟨_, _, rfl⟩
  have HP := Lib.hid hp
  rw [← hV]
  clear hV hp
  go_enter Try.func55, Try.ntmps55
  go_wp2_with fail
  refine (cutl_dash s _).mono ?_
  rintro e w' ⟨rfl, rfl⟩
  rw [HP.out]
  go_wp2_with fail
  go_ret2
  exact ⟨by rw [HV.out, HP.out]; rfl, rfl⟩

end Go.Proofs.Ytcmgafehidgkmaa.Nam
