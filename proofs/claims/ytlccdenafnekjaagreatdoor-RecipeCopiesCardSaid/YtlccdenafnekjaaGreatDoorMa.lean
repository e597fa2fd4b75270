/-
  What the laws of recipe rest on, part 1: the code's functions as functions on lists and trees, and what each call does.
-/
import Derived.Test.YtlccdenafnekjaaGreatDoorRows
import Derived.WalkKit
import Derived.WalkSpells
import Derived.WalkLawsBesides
import Derived.Lib.Hide
import Derived.Lib.Bytealg
import Derived.Shelf.Strings.Builder1
import Derived.Shelf.Strings.Trim
import Derived.Shelf.Small.Utf8
import Derived.Shelf.Small.Strs
import Derived.Shelf.Strings.BuilderF
import Derived.Shelf.Strings.BuilderK
import Derived.Shelf.Strings.Search1
import Derived.Shelf.Strings.Search2
import Derived.Shelf.Strings.Search3
import Derived.Shelf.Strings.Cut
import Derived.Shelf.Strings.Count
import Derived.Shelf.LaysM
import Derived.Shelf.Strings.Shaped
import Derived.Shelf.Strings.Prefix
import Derived.Shelf.Strings.Split
import Derived.Shelf.Strings.SplitShaped
import Derived.Shelf.Strings.Runes
import Derived.Shelf.Strings.AsciiSet
import Derived.Shelf.Unicode.DecodeSlow
import Derived.Shelf.Strings.BuilderCap
import Derived.Shelf.Slices.Turned
import Derived.Shelf.Slices.Equal
import Derived.Ground.Names2Prog
import Derived.Shelf.Slices.Delete
import Derived.Shelf.Bytes.SlIndexSmall
import Derived.Shelf.Bytes.SlIndexAt
import Derived.Shelf.Slices.Empties2
import Derived.Shelf.Bytes.SlSearch0
import Derived.Shelf.Bytes.SlSearch1
import Derived.Shelf.Bytes.SlEqualAll
import Derived.Shelf.Bytes.Small
import Derived.Shelf.Bytes.IndexByte
import Derived.Test.YtlccdenafnekjaaGreatDoorProg
import Derived.Laws.IdiomStrings
import Derived.Deep.QuietTactic
import Derived.BigQuiet
import Derived.Deep.LoopGhost
import Derived.Deep.DeepMust
import Derived.Deep.AppendLies
import Derived.Laws.BytesString
import Derived.Lib.SplitLaws
import Derived.Laws.Rows
import Derived.Laws.CopyOwn
import Derived.Deep.MidRow
import Derived.Deep.RegionHeld
import Derived.Deep.Cut
import Derived.BigFrame
import Derived.Deep.Slices
import Derived.ProofKit
import Derived.OpenShut
import Derived.SizedLaws
import Derived.Laws.AppendOwn
import Derived.Laws.OwnMore
import Derived.BigRegion
import Derived.Laws.AppendOwnNone
import Derived.OwnWalk
namespace Go.Proofs.YtlccdenafnekjaaGreatDoor
open Go.RowKit
set_option linter.unusedVariables false

set_option maxRecDepth 100000 in
set_option maxHeartbeats 1000000 in
theorem lite_any (s : ByteArray) (c : Int) (w : World) :
    Calls Tryz.prog 82 #[.string s, .int .u8 c] w fun e w' => e = .returned (.int .i64 (Go.Lib.indexByte s.data.toList c.toNat.toUInt8)) ∧ w = w' := by
  go_enter Tryz.func82, Tryz.ntmps82
  go_wp2
  rw [run_callFunc_extern Tryz.func104 (by kernel_rfl) (by kernel_rfl) (by kernel_rfl) (e := Extern.BytealgIndexByte.indexByte) (by kernel_rfl), Go.Lib.run_indexByteString]
  simp only [Result.andThen]
  rw [Oper.upon_value]
  go_wp2
  go_ret
  exact ⟨rfl, rfl⟩

set_option maxHeartbeats 1000000 in
theorem index_any (s : ByteArray) (c : Int) (w : World) :
    Calls Tryz.prog 65 #[.string s, .int .u8 c] w fun e w' => e = .returned (.int .i64 (Go.Lib.indexByte s.data.toList c.toNat.toUInt8)) ∧ w = w' := by
  go_enter Tryz.func65, Tryz.ntmps65
  go_wp2_with (go_at_call 82; refine (lite_any _ _ _).mono ?_; rintro e w' ⟨rfl, rfl⟩)
  go_ret
  exact ⟨rfl, rfl⟩

/-- May it stand in a directory? -/
def tName (l : List UInt8) : Bool := decide (1 ≤ l.length) && decide (l.length ≤ 80) && (l != [46]) && (l != [46, 46]) && !(l.contains 47) && !(l.contains 0)

theorem index_neg (c : UInt8) : ∀ l : List UInt8, decide (Go.Lib.indexByte l c < 0) = !(l.contains c)
  | [] => rfl
  | b :: t => by
    have ih := index_neg c t
    have hg := Go.Lib.indexByte_ge t c
    unfold Go.Lib.indexByte
    by_cases h : b = c
    · subst h; simp
    · have h1 : (b == c) = false := by simpa using h
      have h2 : (c == b) = false := by simpa using fun e => h e.symm
      simp only [List.contains_cons, h2, Bool.false_or, ← ih]
      by_cases hm : Go.Lib.indexByte t c = -1
      · simp [h1, hm]
      · have : 0 ≤ Go.Lib.indexByte t c := by omega
        simp [h1, hm]
        omega

theorem tName_empty {l : List UInt8} (h : l.length = 0) : tName l = false := by simp [tName, h]
theorem tName_long {l : List UInt8} (h : 80 < l.length) : tName l = false := by
  have : decide (l.length ≤ 80) = false := by simp; omega
  simp only [tName, this, Bool.and_false, Bool.false_and]
theorem tName_slash {l : List UInt8} (h : l.contains 47 = true) : tName l = false := by simp only [tName, h, Bool.not_true, Bool.and_false, Bool.false_and]
theorem tName_nul {l : List UInt8} (h : l.contains 0 = true) : tName l = false := by simp only [tName, h, Bool.not_true, Bool.and_false]
theorem tName_good {l : List UInt8} (h0 : 1 ≤ l.length) (h1 : l.length ≤ 80) (h2 : l ≠ [46]) (h3 : l ≠ [46, 46]) (h4 : l.contains 47 = false) (h5 : l.contains 0 = false) : tName l = true := by
  have e2 : (l != [46]) = true := by simpa using h2
  have e3 : (l != [46, 46]) = true := by simpa using h3
  simp only [tName, decide_eq_true h0, decide_eq_true h1, e2, e3, h4, h5, Bool.not_false, Bool.and_self]

theorem bytes_ext {s t : ByteArray} (h : s.data.toList = t.data.toList) : s = t := by
  cases s; cases t
  congr 1
  exact Array.toList_inj.1 h

set_option maxRecDepth 100000 in
set_option maxHeartbeats 4000000 in
theorem name_any (s : ByteArray) (w : World) :
    Calls Tryz.prog 113 #[.string s] w fun e w' => e = .returned (.bool (tName s.data.toList)) ∧ w = w' := by
  have hlen : s.data.toList.length = s.size := by simp
  by_cases h0 : s.size = 0
  · have hnil : s.data.toList = [] := List.eq_nil_of_length_eq_zero (by rw [hlen]; exact h0)
    have hs : s = ⟨#[]⟩ := bytes_ext (by rw [hnil])
    subst hs
    clear hlen h0 hnil
    go_enter Tryz.func113, Tryz.ntmps113
    go_wp2_with fail
    go_ret
    exact ⟨rfl, rfl⟩
  by_cases h1 : s = ⟨#[46]⟩
  · subst h1
    clear hlen h0
    go_enter Tryz.func113, Tryz.ntmps113
    go_wp2_with fail
    go_ret
    exact ⟨rfl, rfl⟩
  by_cases h2 : s = ⟨#[46, 46]⟩
  · subst h2
    clear hlen h0 h1
    go_enter Tryz.func113, Tryz.ntmps113
    go_wp2_with fail
    go_ret
    exact ⟨rfl, rfl⟩
  have n0 : s.toList.isEmpty = false := by
    rw [ByteArray.toList_eq]
    cases h : s.data.toList with
    | nil => rw [h] at hlen; simp at hlen; omega
    | cons a t => rfl
  have n1 : (s.toList == [46]) = false := by
    rw [beq_eq_false_iff_ne, ByteArray.toList_eq]; exact fun h => h1 (bytes_ext h)
  have n2 : (s.toList == [46, 46]) = false := by
    rw [beq_eq_false_iff_ne, ByteArray.toList_eq]; exact fun h => h2 (bytes_ext h)
  have d1 : s.data.toList ≠ [46] := fun h => h1 (bytes_ext h)
  have d2 : s.data.toList ≠ [46, 46] := fun h => h2 (bytes_ext h)
  by_cases h80 : 80 < s.size
  · have h4 : decide ((80 : Int) < (s.size : Int)) = true := by simp; omega
    rw [tName_long (by rw [hlen]; exact h80)]
    clear hlen h1 h2 d1 d2
    go_enter Tryz.func113, Tryz.ntmps113
    go_wp2_with fail
    go_ret
    exact ⟨rfl, rfl⟩
  · have h4 : decide ((80 : Int) < (s.size : Int)) = false := by simp; omega
    have i47 := index_neg 47 s.data.toList
    have i0 := index_neg 0 s.data.toList
    cases c47 : s.data.toList.contains 47
    · cases c0 : s.data.toList.contains 0
      · rw [tName_good (by rw [hlen]; omega) (by rw [hlen]; omega) d1 d2 c47 c0]
        rw [c47] at i47
        rw [c0] at i0
        clear hlen h1 h2 d1 d2
        go_enter Tryz.func113, Tryz.ntmps113
        go_wp2_with (go_at_call 65; refine (index_any _ _ _).mono ?_; rintro e w' ⟨rfl, rfl⟩)
        go_ret
        exact ⟨rfl, rfl⟩
      · rw [tName_nul c0]
        rw [c47] at i47
        rw [c0] at i0
        clear hlen h1 h2 d1 d2
        go_enter Tryz.func113, Tryz.ntmps113
        go_wp2_with (go_at_call 65; refine (index_any _ _ _).mono ?_; rintro e w' ⟨rfl, rfl⟩)
        go_ret
        exact ⟨rfl, rfl⟩
    · rw [tName_slash c47]
      rw [c47] at i47
      clear hlen h1 h2 d1 d2
      go_enter Tryz.func113, Tryz.ntmps113
      go_wp2_with (go_at_call 65; refine (index_any _ _ _).mono ?_; rintro e w' ⟨rfl, rfl⟩)
      go_ret
      exact ⟨rfl, rfl⟩

theorem str_get (s : ByteArray) (i : Nat) (h : i < s.size) : s[i] = s.data.toList.getD i 0 := by
  have hl : i < s.data.toList.length := by simpa using h
  rw [List.getD_eq_getElem?_getD, List.getElem?_eq_getElem hl]
  rfl

/-- No slash and no nought so far. -/
def clearTo (l : List UInt8) (k : Nat) : Prop := (l.take k).contains 47 = false ∧ (l.take k).contains 0 = false

theorem contains_at {l : List UInt8} {k : Nat} {c : UInt8} (h : k < l.length) (hc : l.getD k 0 = c) : l.contains c = true := by
  rw [List.contains_iff_mem]
  rw [List.getD_eq_getElem?_getD, List.getElem?_eq_getElem h] at hc
  rw [← hc]
  exact List.getElem_mem h

theorem clearTo_step {l : List UInt8} {k : Nat} (h : k < l.length) (hc : clearTo l k) (h1 : l.getD k 0 ≠ 47) (h2 : l.getD k 0 ≠ 0) : clearTo l (k + 1) := by
  have e : l.take (k + 1) = l.take k ++ [l.getD k 0] := by
    rw [List.take_succ_eq_append_getElem h, List.getD_eq_getElem?_getD, List.getElem?_eq_getElem h]; rfl
  unfold clearTo
  rw [e]
  simp only [List.contains_append, hc.1, hc.2, Bool.false_or]
  refine ⟨?_, ?_⟩
  · simpa using fun e => h1 e.symm
  · simpa using fun e => h2 e.symm

set_option maxRecDepth 100000 in
set_option maxHeartbeats 8000000 in
theorem rname_any (s : ByteArray) (w : World) (hm : s.size ≤ 140737488355328) :
    Calls Tryz.prog 56 #[.string s] w fun e w' => e = .returned (.bool (tName s.data.toList)) ∧ w = w' := by
  have hlen : s.data.toList.length = s.size := by simp
  have HL := Lib.hid hlen
  clear hlen
  go_enter Tryz.func56, Tryz.ntmps56
  go_wp2_with fail
  go_loopw [3] (fun ii wr => ∃ k : Nat, k ≤ s.size ∧ ii = .int .i64 k ∧ clearTo s.data.toList k ∧ w = wr) (fun ii _ => s.size - (intOf ii).toNat)
  case atStart => exact ⟨0, Nat.zero_le _, rfl, ⟨by simp, by simp⟩, rfl⟩
  case round =>
    obtain ⟨k, hk, rfl, hok, rfl⟩ := hrel
    by_cases hlt : k < s.size
    · have hget := str_get s k hlt
      have hklt : k < s.data.toList.length := by rw [HL.out]; exact hlt
      have hki : (k : Int) < (s.size : Int) := by omega
      by_cases e47 : s.data.toList.getD k 0 = 47
      · have hres := Lib.hid (tName_slash (contains_at hklt e47))
        rw [e47] at hget
        clear hok e47 hklt
        go_wp2_with fail
        go_ret
        exact ⟨by rw [hres.out]; rfl, rfl⟩
      · by_cases e0 : s.data.toList.getD k 0 = 0
        · have hres := Lib.hid (tName_nul (contains_at hklt e0))
          rw [e0] at hget
          clear hok e0 e47 hklt
          go_wp2_with fail
          go_ret
          exact ⟨by rw [hres.out]; rfl, rfl⟩
        · have hstep := Lib.hid (clearTo_step hklt hok e47 e0)
          obtain ⟨c, hc⟩ : ∃ c, c = s.data.toList.getD k 0 := ⟨_, rfl⟩
          rw [← hc] at hget e47 e0
          have c47 : ((c.toNat : Int) == 47) = false := by
            have : c.toNat ≠ 47 := fun h => e47 (UInt8.toNat_inj.1 h)
            rw [beq_eq_false_iff_ne]; omega
          have c47' : ¬ (c.toNat : Int) = 47 := by simpa using c47
          have c0 : ((c.toNat : Int) == 0) = false := by
            have : c.toNat ≠ 0 := fun h => e0 (UInt8.toNat_inj.1 h)
            rw [beq_eq_false_iff_ne]; omega
          have c0' : ¬ (c.toNat : Int) = 0 := by simpa using c0
          clear hok e47 e0 hc hklt
          go_wp2_with fail
          go_roundw
          case rel => exact ⟨k + 1, by omega, by go_num, hstep.out, by trivial⟩
          case measure => simp [intOf]; omega
    · obtain rfl : k = s.size := by omega
      have h47 : s.data.toList.contains 47 = false := by
        have := hok.1
        rwa [List.take_of_length_le (by rw [HL.out]; exact Nat.le_refl _)] at this
      have h0 : s.data.toList.contains 0 = false := by
        have := hok.2
        rwa [List.take_of_length_le (by rw [HL.out]; exact Nat.le_refl _)] at this
      clear hok
      by_cases l1 : 1 ≤ s.size
      · have i1 : decide ((1 : Int) ≤ (s.size : Int)) = true := by simp; omega
        by_cases l80 : s.size ≤ 80
        · have i80 : decide ((s.size : Int) ≤ 80) = true := by simp; omega
          by_cases d1 : s = ⟨#[46]⟩
          · have hres : Hid (tName s.data.toList = false) := Lib.hid (by rw [d1]; decide)
            have n1 : (s.toList == [46]) = true := by rw [d1, ByteArray.toList_eq]; rfl
            clear h47 h0 d1
            go_wp2_with fail
            go_ret
            exact ⟨by rw [hres.out]; rfl, rfl⟩
          · have n1 : (s.toList == [46]) = false := by
              rw [beq_eq_false_iff_ne, ByteArray.toList_eq]; exact fun h => d1 (bytes_ext h)
            by_cases d2 : s = ⟨#[46, 46]⟩
            · have hres : Hid (tName s.data.toList = false) := Lib.hid (by rw [d2]; decide)
              have n2 : (s.toList == [46, 46]) = true := by rw [d2, ByteArray.toList_eq]; rfl
              clear h47 h0 d1 d2
              go_wp2_with fail
              go_ret
              exact ⟨by rw [hres.out]; rfl, rfl⟩
            · have n2 : (s.toList == [46, 46]) = false := by
                rw [beq_eq_false_iff_ne, ByteArray.toList_eq]; exact fun h => d2 (bytes_ext h)
              have hres := Lib.hid (tName_good (l := s.data.toList) (by rw [HL.out]; exact l1) (by rw [HL.out]; exact l80) (fun h => d1 (bytes_ext h)) (fun h => d2 (bytes_ext h)) h47 h0)
              clear h47 h0 d1 d2
              go_wp2_with fail
              go_ret
              exact ⟨by rw [hres.out]; rfl, rfl⟩
        · have i80 : decide ((s.size : Int) ≤ 80) = false := by simp; omega
          have hres := Lib.hid (tName_long (l := s.data.toList) (by rw [HL.out]; omega))
          clear h47 h0
          go_wp2_with fail
          go_ret
          exact ⟨by rw [hres.out]; rfl, rfl⟩
      · have i1 : decide ((1 : Int) ≤ (s.size : Int)) = false := by simp; omega
        have hres := Lib.hid (tName_empty (l := s.data.toList) (by rw [HL.out]; omega))
        clear h47 h0
        go_wp2_with fail
        go_ret
        exact ⟨by rw [hres.out]; rfl, rfl⟩

end Go.Proofs.YtlccdenafnekjaaGreatDoor
namespace Go.Proofs.YtlccdenafnekjaaGreatDoor
open Go.RowKit

/-- Block b holds just these cells. -/
def Has (w : World) (b : Nat) (L : List Value) (t : TypeId) : Prop := w.heap[b]? = some (.cells L.toArray t (0, 0))

theorem Has.lt {w : World} {b : Nat} {L : List Value} {t : TypeId} (h : Has w b L t) : b < w.heap.size := (Array.getElem?_eq_some_iff.1 h).1
theorem Has.cellAt {w : World} {b : Nat} {L : List Value} {t : TypeId} (h : Has w b L t) {i : Nat} {v : Value} (hv : L[i]? = some v) : w.cell? ⟨b, i, none⟩ = some v := by
  rw [cell_of_row w b i _ t _ h]; simpa using hv
theorem Has.frozen {w : World} {b : Nat} {L : List Value} {t : TypeId} (h : Has w b L t) (i : Nat) : w.frozen? ⟨b, i, none⟩ = false := frozen_of_row w b i _ t h
theorem Has.set {w : World} {b : Nat} {L : List Value} {t : TypeId} (h : Has w b L t) (i : Nat) (v : Value) : Has (w.setCell ⟨b, i, none⟩ v) b (L.set i v) t := by
  have := heap_setCell_same w b i _ t v h
  simpa [Has] using this
theorem Has.setOther {w : World} {b : Nat} {L : List Value} {t : TypeId} (h : Has w b L t) {a : Addr} (ha : b ≠ a.block) (v : Value) : Has (w.setCell a v) b L t :=
  (heap_setCell_other w a b v ha).trans h
theorem Has.alloc {w : World} {b : Nat} {L : List Value} {t : TypeId} (h : Has w b L t) (o : Obj) : Has (w.alloc o) b L t := (Go.RowKit.Below.heap_alloc w o b h.lt).trans h
theorem Has.drew {w : World} {b : Nat} {L : List Value} {t : TypeId} (h : Has w b L t) : Has w.drew b L t := h
theorem Has.new (w : World) (L : List Value) (t : TypeId) : Has (w.alloc (.cells L.toArray t)) w.heap.size L t := heap_alloc_new w _
theorem Has.below {w w' : World} {b B : Nat} {L : List Value} {t : TypeId} (h : Has w b L t) (hb : Below B w w') (hlt : b < B) : Has w' b L t := (hb.block b hlt).trans h
theorem Has.row {w : World} {b : Nat} {L : List Value} {t : TypeId} (h : Has w b L t) (M : List Value) : Has (w.setRow b M.toArray) b M t := setRow_heap w b _ _ t _ h
theorem Has.rowOther {w : World} {b : Nat} {L : List Value} {t : TypeId} (h : Has w b L t) {g : Nat} (hg : b ≠ g) (c : Array Value) : Has (w.setRow g c) b L t := (setRow_other w g b c hg).trans h

/-- Below B all is as it was but for block b. -/
structure But (B b : Nat) (w w' : World) : Prop where
  os : w'.os = w.os
  tape : w'.tape = w.tape
  output : w'.output = w.output
  size : w.heap.size ≤ w'.heap.size
  block : ∀ k, k < B → k ≠ b → w'.heap[k]? = w.heap[k]?

theorem But.refl (B b : Nat) (w : World) : But B b w w := ⟨rfl, rfl, rfl, Nat.le_refl _, fun _ _ _ => rfl⟩
theorem But.trans {B b : Nat} {x y z : World} (h : But B b x y) (k : But B b y z) : But B b x z :=
  ⟨k.os.trans h.os, k.tape.trans h.tape, k.output.trans h.output, Nat.le_trans h.size k.size, fun i hi hb => (k.block i hi hb).trans (h.block i hi hb)⟩
theorem But.mono {B B' b : Nat} {w w' : World} (h : But B b w w') (hB : B' ≤ B) : But B' b w w' := ⟨h.os, h.tape, h.output, h.size, fun k hk hb => h.block k (Nat.lt_of_lt_of_le hk hB) hb⟩
theorem But.of_below {B b : Nat} {w w' : World} (h : Below B w w') : But B b w w' := ⟨h.os, h.tape, h.output, h.size, fun k hk _ => h.block k hk⟩
theorem But.drew {B b : Nat} {x w : World} (h : But B b x w) : But B b x w.drew := ⟨h.os, h.tape, h.output, h.size, h.block⟩
theorem But.alloc {B b : Nat} {x w : World} (h : But B b x w) (hB : B ≤ w.heap.size) (o : Obj) : But B b x (w.alloc o) :=
  h.trans (.of_below ((Below.refl _ _).alloc hB o))
theorem But.setCell {B b : Nat} {x w : World} (h : But B b x w) {p : Addr} (hp : B ≤ p.block ∨ p.block = b) (u : Value) : But B b x (w.setCell p u) :=
  h.trans ⟨rfl, rfl, rfl, by simp [World.setCell], fun k hk hb => Below.heap_setCell _ _ _ _ (by omega)⟩
theorem But.setB {B b : Nat} {x w : World} (h : But B b x w) (i : Nat) (u : Value) : But B b x (w.setCell ⟨b, i, none⟩ u) := h.setCell (p := ⟨b, i, none⟩) (.inr rfl) u
theorem But.setRow {B b : Nat} {x w : World} (h : But B b x w) {g : Nat} (hp : B ≤ g ∨ g = b) (c : Array Value) : But B b x (w.setRow g c) :=
  h.trans ⟨rfl, rfl, rfl, by simp, fun k hk hb => setRow_other w g k c (by omega)⟩
/-- From the block itself on new: then it is as below. -/
theorem But.below {B b : Nat} {w w' : World} (h : But B b w w') (hb : B ≤ b) : Below B w w' := ⟨h.os, h.tape, h.output, h.size, fun k hk => h.block k hk (by omega)⟩
theorem Has.but {w w' : World} {b b' B : Nat} {L : List Value} {t : TypeId} (h : Has w b L t) (hb : But B b' w w') (hlt : b < B) (hne : b ≠ b') : Has w' b L t := (hb.block b hlt hne).trans h

def wv (n : Nat) : Value := .int .u32 (n : Int)
def byv (n : Nat) : Value := .int .u8 (n : Int)

end Go.Proofs.YtlccdenafnekjaaGreatDoor
namespace Go.Proofs.YtlccdenafnekjaaGreatDoor
open Go.RowKit
set_option linter.unusedVariables false

/-- A tree: its kind, whether it may be executed, its bytes, its names, what is in it. -/
inductive T where
  | mk (kind : UInt8) (exec : Bool) (data : List UInt8) (names : List ByteArray) (kids : List T)

instance : Inhabited T := ⟨.mk 0 false [] [] []⟩

/-- A slice of bytes as the list of its bytes. -/
structure IsB (w : World) (a : Option Addr) (len cap : Nat) (l : List UInt8) : Prop where
  length : l.length = len
  at_ : len = 0 ∨ ∃ b off, a = some ⟨b, off, none⟩ ∧ b < w.heap.size ∧ ∀ i, i < len → w.cell? ⟨b, off + i, none⟩ = some (.int .u8 ((l.getD i 0).toNat : Int))
  nil : a = none → len = 0 ∧ cap = 0
  room : len ≤ cap ∧ cap ≤ maxLen
  most : len ≤ 140737488355328

/-- A slice of texts as the list of its texts. -/
structure IsS (w : World) (a : Option Addr) (len cap : Nat) (l : List ByteArray) : Prop where
  length : l.length = len
  at_ : len = 0 ∨ ∃ b off, a = some ⟨b, off, none⟩ ∧ b < w.heap.size ∧ ∀ i, i < len → w.cell? ⟨b, off + i, none⟩ = some (.string (l.getD i ⟨#[]⟩))
  nil : a = none → len = 0 ∧ cap = 0
  room : len ≤ cap ∧ cap ≤ maxLen

theorem IsB.later {w w' : World} {a : Option Addr} {len cap : Nat} {l : List UInt8} (h : IsB w a len cap l) (hb : Below w.heap.size w w') : IsB w' a len cap l := by
  refine ⟨h.length, ?_, h.nil, h.room, h.most⟩
  rcases h.at_ with h0 | ⟨b, off, rfl, hlt, hc⟩
  · exact .inl h0
  · exact .inr ⟨b, off, rfl, Nat.lt_of_lt_of_le hlt hb.size, fun i hi => (hb.cell (p := ⟨b, off + i, none⟩) hlt).trans (hc i hi)⟩

theorem IsS.later {w w' : World} {a : Option Addr} {len cap : Nat} {l : List ByteArray} (h : IsS w a len cap l) (hb : Below w.heap.size w w') : IsS w' a len cap l := by
  refine ⟨h.length, ?_, h.nil, h.room⟩
  rcases h.at_ with h0 | ⟨b, off, rfl, hlt, hc⟩
  · exact .inl h0
  · exact .inr ⟨b, off, rfl, Nat.lt_of_lt_of_le hlt hb.size, fun i hi => (hb.cell (p := ⟨b, off + i, none⟩) hlt).trans (hc i hi)⟩

/-- A slice of trees, each read by R. -/
structure IsK (R : List Value → T → Prop) (w : World) (a : Option Addr) (len cap : Nat) (l : List T) : Prop where
  length : l.length = len
  at_ : len = 0 ∨ ∃ b off, a = some ⟨b, off, none⟩ ∧ b < w.heap.size ∧ ∀ i, i < len → ∃ c0 c1 c2 c3 c4, R [c0, c1, c2, c3, c4] (l.getD i default) ∧
    w.cell? ⟨b, off + i * 5, none⟩ = some c0 ∧ w.cell? ⟨b, off + (i * 5 + 1), none⟩ = some c1 ∧ w.cell? ⟨b, off + (i * 5 + 2), none⟩ = some c2 ∧ w.cell? ⟨b, off + (i * 5 + 3), none⟩ = some c3 ∧ w.cell? ⟨b, off + (i * 5 + 4), none⟩ = some c4
  nil : a = none → len = 0 ∧ cap = 0
  room : len ≤ cap ∧ cap ≤ maxLen

/-- Five cells that read as a tree, of at most so many levels. -/
def IsT (w : World) : Nat → List Value → T → Prop
  | 0, _, _ => False
  | n + 1, cs, .mk k x d ns ks => ∃ ad nd cd an nn cn ak nk ck, cs = [.int .u8 (k.toNat : Int), .bool x, .slice ad nd cd, .slice an nn cn, .slice ak nk ck] ∧
      IsB w ad nd cd d ∧ IsS w an nn cn ns ∧ IsK (IsT w n) w ak nk ck ks

theorem IsK.mono {R R' : List Value → T → Prop} {w w' : World} {a : Option Addr} {len cap : Nat} {l : List T} (h : IsK R w a len cap l) (hb : Below w.heap.size w w') (hR : ∀ cs t, R cs t → R' cs t) : IsK R' w' a len cap l := by
  refine ⟨h.length, ?_, h.nil, h.room⟩
  rcases h.at_ with h0 | ⟨b, off, rfl, hlt, hc⟩
  · exact .inl h0
  · refine .inr ⟨b, off, rfl, Nat.lt_of_lt_of_le hlt hb.size, fun i hi => ?_⟩
    obtain ⟨c0, c1, c2, c3, c4, hr, h0, h1, h2, h3, h4⟩ := hc i hi
    exact ⟨c0, c1, c2, c3, c4, hR _ _ hr, (hb.cell (p := ⟨b, _, none⟩) hlt).trans h0, (hb.cell (p := ⟨b, _, none⟩) hlt).trans h1, (hb.cell (p := ⟨b, _, none⟩) hlt).trans h2, (hb.cell (p := ⟨b, _, none⟩) hlt).trans h3, (hb.cell (p := ⟨b, _, none⟩) hlt).trans h4⟩

theorem IsT.later {w w' : World} (hb : Below w.heap.size w w') : ∀ (n : Nat) (cs : List Value) (t : T), IsT w n cs t → IsT w' n cs t
  | 0, _, _, h => h
  | n + 1, cs, .mk k x d ns ks, h => by
    obtain ⟨ad, nd, cd, an, nn, cn, ak, nk, ck, hcs, hB, hS, hK⟩ := h
    exact ⟨ad, nd, cd, an, nn, cn, ak, nk, ck, hcs, hB.later hb, hS.later hb, hK.mono hb (fun cs t => IsT.later hb n cs t)⟩

/-! Which trees are right, and how great they are. -/

/-- Is the one text at most the other? -/
def leS (s p : ByteArray) : Bool := Op.bytesLess s.toList p.toList || s.toList == p.toList

/-- Do the names rise, and are they names? -/
def risingT (l : List ByteArray) : Bool := (List.range l.length).all fun i => tName (l.getD i ⟨#[]⟩).data.toList && (i == 0 || !leS (l.getD i ⟨#[]⟩) (l.getD (i - 1) ⟨#[]⟩))

theorem risingT_good {l : List ByteArray} (h : ∀ i, i < l.length → tName (l.getD i ⟨#[]⟩).data.toList = true ∧ (1 ≤ i → leS (l.getD i ⟨#[]⟩) (l.getD (i - 1) ⟨#[]⟩) = false)) : risingT l = true := by
  unfold risingT
  rw [List.all_eq_true]
  intro i hi
  obtain ⟨h1, h2⟩ := h i (List.mem_range.1 hi)
  rw [h1]
  rcases Nat.eq_zero_or_pos i with rfl | h0
  · rfl
  · rw [h2 h0]; simp

theorem risingT_name {l : List ByteArray} {i : Nat} (hi : i < l.length) (h : tName (l.getD i ⟨#[]⟩).data.toList = false) : risingT l = false := by
  unfold risingT
  rw [List.all_eq_false]
  exact ⟨i, List.mem_range.2 hi, by rw [h]; simp⟩

theorem risingT_less {l : List ByteArray} {i : Nat} (hi : i < l.length) (h0 : 1 ≤ i) (h : leS (l.getD i ⟨#[]⟩) (l.getD (i - 1) ⟨#[]⟩) = true) : risingT l = false := by
  unfold risingT
  rw [List.all_eq_false]
  refine ⟨i, List.mem_range.2 hi, ?_⟩
  rw [h]
  have : (i == 0) = false := by rw [beq_eq_false_iff_ne]; omega
  rw [this]; simp

def formedT : T → Bool
  | .mk k x d ns ks =>
    if k = 3 then !x && d.isEmpty && decide (ns.length = ks.length) && risingT ns
    else ns.isEmpty && ks.isEmpty && (k == 1 || (k == 2 && !x && decide (1 ≤ d.length) && decide (d.length ≤ 400) && !(d.contains 0)))

mutual
/-- Counting on: how many trees and bytes there are behind it; none: it isn't right. -/
def takeT : T → Nat → Nat → Nat → Option (Nat × Nat)
  | .mk k x d ns ks, dep, t, b =>
    if dep ≤ 16 ∧ t + 1 ≤ 4096 ∧ b + d.length ≤ 65536 ∧ formedT (.mk k x d ns ks) = true then takeL ks (dep + 1) (t + 1) (b + d.length) else none
def takeL : List T → Nat → Nat → Nat → Option (Nat × Nat)
  | [], _, t, b => some (t, b)
  | k :: r, dep, t, b => match takeT k dep t b with
    | none => none
    | some (t', b') => takeL r dep t' b'
end

def sizeT (t : T) : Option (Nat × Nat) := takeT t 0 0 0

theorem takeT_mk (k : UInt8) (x : Bool) (d : List UInt8) (ns : List ByteArray) (ks : List T) (dep t b : Nat) : takeT (.mk k x d ns ks) dep t b =
    if dep ≤ 16 ∧ t + 1 ≤ 4096 ∧ b + d.length ≤ 65536 ∧ formedT (.mk k x d ns ks) = true then takeL ks (dep + 1) (t + 1) (b + d.length) else none := by rw [takeT]

theorem takeL_append : ∀ (p q : List T) (dep t b : Nat), takeL (p ++ q) dep t b = (takeL p dep t b).bind fun r => takeL q dep r.1 r.2
  | [], q, dep, t, b => by simp [takeL]
  | k :: p, q, dep, t, b => by
    rw [List.cons_append, takeL, takeL]
    cases takeT k dep t b with
    | none => rfl
    | some r => exact takeL_append p q dep r.1 r.2

theorem takeL_one (k : T) (dep t b : Nat) : takeL [k] dep t b = takeT k dep t b := by
  rw [takeL]
  cases takeT k dep t b with
  | none => rfl
  | some r => simp [takeL]

mutual
theorem takeT_le : ∀ (t : T) (dep n b : Nat) (r : Nat × Nat), takeT t dep n b = some r → r.1 ≤ 4096 ∧ r.2 ≤ 65536
  | .mk k x d ns ks, dep, n, b, r, h => by
    rw [takeT_mk] at h
    split at h
    · rename_i hc
      exact takeL_le ks _ _ _ r hc.2.1 hc.2.2.1 h
    · cases h
theorem takeL_le : ∀ (l : List T) (dep n b : Nat) (r : Nat × Nat), n ≤ 4096 → b ≤ 65536 → takeL l dep n b = some r → r.1 ≤ 4096 ∧ r.2 ≤ 65536
  | [], dep, n, b, r, hn, hb, h => by
    rw [takeL] at h
    cases h
    exact ⟨hn, hb⟩
  | k :: l, dep, n, b, r, hn, hb, h => by
    rw [takeL] at h
    cases hk : takeT k dep n b with
    | none => rw [hk] at h; cases h
    | some q =>
      rw [hk] at h
      have := takeT_le k dep n b q hk
      exact takeL_le l dep q.1 q.2 r this.1 this.2 h
end

end Go.Proofs.YtlccdenafnekjaaGreatDoor
namespace Go.Proofs.YtlccdenafnekjaaGreatDoor
open Go.RowKit
set_option linter.unusedVariables false

/-- What a sign behind a backslash stands for. -/
def wval (c : UInt8) : Option UInt8 := if c = 92 then some 92 else if c = 34 then some 34 else if c = 110 then some 10 else if c = 116 then some 9 else none
/-- The word in quotes, from behind the first on, and what is behind it. -/
def qd : List UInt8 → List UInt8 → Option (List UInt8 × List UInt8)
  | [], _ => none
  | [c], acc => if c = 34 then some (acc, []) else none
  | c :: d :: t, acc => if c = 34 then (if d = 32 then some (acc, d :: t) else none) else if c = 92 then (match wval d with
      | none => none
      | some v => qd t (acc ++ [v])) else qd (d :: t) (acc ++ [c])
def notBl (c : UInt8) : Bool := c != 32
def okW (l : List UInt8) : Bool := l.all (fun c => c != 34 && c != 92)
/-- The word that a text begins with, and what is behind it. -/
def readW : List UInt8 → Option (List UInt8 × List UInt8)
  | [] => none
  | c :: t => if c = 34 then qd t [] else if okW ((c :: t).takeWhile notBl) = true then some ((c :: t).takeWhile notBl, (c :: t).dropWhile notBl) else none
def dropBl (l : List UInt8) : List UInt8 := l.dropWhile (fun c => c == 32)
/-- The words of a line. -/
def splN : Nat → List UInt8 → List (List UInt8) → Option (List (List UInt8))
  | 0, _, _ => none
  | n + 1, s, acc => match dropBl s with
    | [] => some acc
    | c :: t => match readW (c :: t) with
      | none => none
      | some (w, r) => splN n r (acc ++ [w])
def wordsF (s : List UInt8) : Option (List (List UInt8)) := splN (s.length + 1) s []
theorem qd_len : ∀ (n : Nat) (s acc : List UInt8) (w r : List UInt8), s.length ≤ n → qd s acc = some (w, r) → r.length < s.length ∧ w.length ≤ acc.length + s.length
  | _, [], _, _, _, _, h => by simp [qd] at h
  | _, [c], acc, w, r, _, h => by
    unfold qd at h
    split at h
    · simp only [Option.some.injEq, Prod.mk.injEq] at h
      obtain ⟨rfl, rfl⟩ := h
      simp
    · cases h
  | 0, c :: d :: t, acc, w, r, hn, h => by simp at hn
  | n + 1, c :: d :: t, acc, w, r, hn, h => by
    unfold qd at h
    simp only [List.length_cons] at hn ⊢
    split at h
    · split at h
      · simp only [Option.some.injEq, Prod.mk.injEq] at h
        obtain ⟨rfl, rfl⟩ := h
        simp only [List.length_cons]
        omega
      · cases h
    · split at h
      · split at h
        · cases h
        · have := qd_len n t _ w r (by omega) h
          rw [List.length_append, List.length_singleton] at this
          omega
      · have := qd_len n (d :: t) _ w r (by simp only [List.length_cons]; omega) h
        rw [List.length_append, List.length_singleton, List.length_cons] at this
        omega
theorem dropWhile_len (p : UInt8 → Bool) (l : List UInt8) : (l.dropWhile p).length ≤ l.length := (List.dropWhile_sublist p).length_le
theorem takeWhile_len (p : UInt8 → Bool) (l : List UInt8) : (l.takeWhile p).length ≤ l.length := (List.takeWhile_sublist p).length_le
theorem readW_cons (c : UInt8) (t : List UInt8) : readW (c :: t) = if c = 34 then qd t [] else if okW ((c :: t).takeWhile notBl) = true then some ((c :: t).takeWhile notBl, (c :: t).dropWhile notBl) else none := rfl
theorem readW_len {s w r : List UInt8} (hs : s.head? ≠ some 32) (h : readW s = some (w, r)) : r.length < s.length ∧ w.length ≤ s.length := by
  cases s with
  | nil => cases h
  | cons c t =>
    rw [readW_cons] at h
    by_cases h34 : c = 34
    · rw [if_pos h34] at h
      have := qd_len t.length t [] w r (Nat.le_refl _) h
      simp only [List.length_nil, List.length_cons] at this ⊢
      omega
    · rw [if_neg h34] at h
      by_cases hok : okW ((c :: t).takeWhile notBl) = true
      · rw [if_pos hok] at h
        simp only [Option.some.injEq, Prod.mk.injEq] at h
        obtain ⟨rfl, rfl⟩ := h
        have hc : notBl c = true := by
          unfold notBl
          rw [bne_iff_ne]
          intro e
          exact hs (by rw [e]; rfl)
        refine ⟨?_, takeWhile_len _ _⟩
        rw [List.dropWhile_cons, if_pos hc]
        have := dropWhile_len notBl t
        simp only [List.length_cons]
        omega
      · rw [if_neg hok] at h; cases h
theorem dropBl_head (l : List UInt8) : (dropBl l).head? ≠ some 32 := by
  unfold dropBl
  intro h
  cases hd : l.dropWhile (fun c => c == 32) with
  | nil => rw [hd] at h; cases h
  | cons c t =>
    rw [hd] at h
    have hc : c = 32 := by simpa using h
    have := List.head_dropWhile_not (fun c : UInt8 => c == 32) (l := l) (by rw [hd]; simp)
    simp only [hd, List.head_cons] at this
    rw [hc] at this
    cases this
/-! The steps. -/
/-- The forms: kind, name, how many words. -/
def formsF : List (Nat × List UInt8 × Nat) := [(1, [109, 107, 100, 105, 114], 1), (2, [119, 114, 105, 116, 101], 2), (3, [97, 112, 112, 101, 110, 100], 2), (4, [99, 111, 112, 121], 3), (5, [108, 105, 110, 107], 2), (6, [101, 120, 101, 99], 1), (7, [115, 119, 97, 112], 3), (8, [102, 97, 105, 108], 1)]
/-- What a line's words mean: the kind, or the error. -/
def meanF (ws : List (List UInt8)) : Nat × Nat := match formsF.find? (fun f => f.2.1 == ws.headD []) with
  | none => (0, 9)
  | some f => if f.2.2 = ws.length - 1 then (f.1, 0) else (0, 1)
/-- The steps of lines, from the i-th on: steps, line, error. -/
def parN : List (List UInt8) → Nat → List (Nat × List (List UInt8)) → List (Nat × List (List UInt8)) × Nat × Nat
  | [], _, acc => (acc, 0, 0)
  | l :: ls, i, acc => match wordsF l with
    | none => ([], i, 4)
    | some [] => parN ls (i + 1) acc
    | some (w :: ws) => if (meanF (w :: ws)).2 = 0 then (if acc.length = 200 then ([], i, 2) else parN ls (i + 1) (acc ++ [((meanF (w :: ws)).1, ws)])) else ([], i, (meanF (w :: ws)).2)
end Go.Proofs.YtlccdenafnekjaaGreatDoor

namespace Go.Proofs
open Go.Shelf
def Tryz.lays170_ren : Go.Shelf.Ren := ⟨fun | 170 => 86 | n => n, fun | 70 => 126 | 3 => 3 | 0 => 0 | 72 => 128 | 37 => 33 | 5 => 5 | n => n, fun | n => n⟩
theorem Tryz.lays170 : Go.Proofs.Lays.n170 Tryz.prog Tryz.lays170_ren := {
  mixed := by kernel_rfl
  f170 := Tryz.func86.trans (congrArg some (by kernel_rfl))
  t0 := Tryz.underlying0
  a0 := Tryz.isAgg0
  z0 := Tryz.sizeOf0
  v0 := Tryz.zeroValue0
  t3 := Tryz.underlying3
  a3 := Tryz.isAgg3
  z3 := Tryz.sizeOf3
  v3 := Tryz.zeroValue3
  t37 := Tryz.underlying33
  a37 := Tryz.isAgg33
  z37 := Tryz.sizeOf33
  v37 := Tryz.zeroValue33
  t70 := Tryz.underlying126
  a70 := Tryz.isAgg126
  z70 := Tryz.sizeOf126
  v70 := Tryz.zeroValue126
  t72 := Tryz.underlying128
  a72 := Tryz.isAgg128
  z72 := Tryz.sizeOf128
  v72 := Tryz.zeroValue128 }
open Go.RowKit in
/-- (*strings.Builder).Len: "Len returns the number of accumulated bytes; b.Len() == len(b.String()).": the world is as it was. (LAID: no walk: one application.) -/
theorem Tryz.Builder_Len (B b : Nat) (bs : List Value) (w : World) (h : Lib.IsBuilder 128 5 B b bs w) :
    Calls Tryz.prog 86 #[.pointer (some ⟨b, 0, none⟩)] w fun e w' => e = .returned (.int .i64 bs.length) ∧ w' = w := Any.Builder_Len Tryz.lays170 B b bs w h
def Tryz.lays169_ren : Go.Shelf.Ren := ⟨fun | 169 => 87 | n => n, fun | 70 => 126 | 9 => 9 | 0 => 0 | 72 => 128 | 37 => 33 | 127 => 152 | 3 => 3 | 5 => 5 | n => n, fun | n => n⟩
theorem Tryz.lays169 : Go.Proofs.Lays.n169 Tryz.prog Tryz.lays169_ren := {
  mixed := by kernel_rfl
  f169 := Tryz.func87.trans (congrArg some (by kernel_rfl))
  t0 := Tryz.underlying0
  a0 := Tryz.isAgg0
  z0 := Tryz.sizeOf0
  v0 := Tryz.zeroValue0
  t3 := Tryz.underlying3
  a3 := Tryz.isAgg3
  z3 := Tryz.sizeOf3
  v3 := Tryz.zeroValue3
  t9 := Tryz.underlying9
  a9 := Tryz.isAgg9
  z9 := Tryz.sizeOf9
  v9 := Tryz.zeroValue9
  t37 := Tryz.underlying33
  a37 := Tryz.isAgg33
  z37 := Tryz.sizeOf33
  v37 := Tryz.zeroValue33
  t70 := Tryz.underlying126
  a70 := Tryz.isAgg126
  z70 := Tryz.sizeOf126
  v70 := Tryz.zeroValue126
  t72 := Tryz.underlying128
  a72 := Tryz.isAgg128
  z72 := Tryz.sizeOf128
  v72 := Tryz.zeroValue128
  t127 := Tryz.underlying152
  a127 := Tryz.isAgg152
  z127 := Tryz.sizeOf152
  v127 := Tryz.zeroValue152 }
theorem Tryz.Builder_Extra_169 : Builder.Extra Tryz.prog Tryz.lays169_ren := {
  sizeBuilder := by kernel_rfl
  liesBuilder := by kernel_rfl
  t5 := Tryz.underlying5
  a5 := Tryz.isAgg5
  z5 := Tryz.sizeOf5
  v5 := Tryz.zeroValue5
  infoByte := by kernel_rfl
  cellsByte := by kernel_rfl
  sizeByte := by kernel_rfl
  neB5 := by decide }
open Go.RowKit in
/-- (*strings.Builder).String: "String returns the accumulated string.": WHATEVER THE BUILDER HOLDS. (LAID: no walk: one application.) -/
theorem Tryz.Builder_String_any (B b : Nat) (l : List UInt8) (w : World) (h : Lib.IsBuilder 128 5 B b (Lib.byteCells l) w) (hBw : B ≤ w.heap.size) :
    Calls Tryz.prog 87 #[.pointer (some ⟨b, 0, none⟩)] w fun e w' => e = .returned (.string ⟨l.toArray⟩) ∧ Below B w w' := Any.Builder_String_any Tryz.lays169 Tryz.Builder_Extra_169 B b l w h hBw
def Tryz.lays161_ren : Go.Shelf.Ren := ⟨fun | 161 => 38 | 231 => 60 | 227 => 61 | 233 => 62 | 235 => 63 | 228 => 79 | 197 => 76 | 151 => 80 | 260 => 99 | 152 => 103 | 137 => 65 | 119 => 125 | 224 => 101 | 225 => 100 | 217 => 82 | 266 => 104 | n => n, fun | 9 => 9 | 4 => 4 | 3 => 3 | 5 => 5 | 117 => 107 | 116 => 106 | 0 => 0 | 124 => 110 | 105 => 122 | 21 => 21 | 119 => 166 | 46 => 150 | 139 => 169 | 138 => 168 | n => n, fun | 3 => 2 | 4 => 3 | n => n⟩
theorem Tryz.lays161 : Go.Proofs.Lays.n161 Tryz.prog Tryz.lays161_ren := {
  mixed := by kernel_rfl
  f119 := Tryz.func125.trans (congrArg some (by kernel_rfl))
  f137 := Tryz.func65.trans (congrArg some (by kernel_rfl))
  f151 := Tryz.func80.trans (congrArg some (by kernel_rfl))
  f152 := Tryz.func103.trans (congrArg some (by kernel_rfl))
  f161 := Tryz.func38.trans (congrArg some (by kernel_rfl))
  f197 := Tryz.func76.trans (congrArg some (by kernel_rfl))
  f217 := Tryz.func82.trans (congrArg some (by kernel_rfl))
  f224 := Tryz.func101.trans (congrArg some (by kernel_rfl))
  f225 := Tryz.func100.trans (congrArg some (by kernel_rfl))
  f227 := Tryz.func61.trans (congrArg some (by kernel_rfl))
  f228 := Tryz.func79.trans (congrArg some (by kernel_rfl))
  f231 := Tryz.func60.trans (congrArg some (by kernel_rfl))
  f233 := Tryz.func62.trans (congrArg some (by kernel_rfl))
  f235 := Tryz.func63.trans (congrArg some (by kernel_rfl))
  f260 := Tryz.func99.trans (congrArg some (by kernel_rfl))
  f266 := Tryz.func104.trans (congrArg some (by kernel_rfl))
  t0 := Tryz.underlying0
  a0 := Tryz.isAgg0
  z0 := Tryz.sizeOf0
  v0 := Tryz.zeroValue0
  t3 := Tryz.underlying3
  a3 := Tryz.isAgg3
  z3 := Tryz.sizeOf3
  v3 := Tryz.zeroValue3
  t4 := Tryz.underlying4
  a4 := Tryz.isAgg4
  z4 := Tryz.sizeOf4
  v4 := Tryz.zeroValue4
  t5 := Tryz.underlying5
  a5 := Tryz.isAgg5
  z5 := Tryz.sizeOf5
  v5 := Tryz.zeroValue5
  t9 := Tryz.underlying9
  a9 := Tryz.isAgg9
  z9 := Tryz.sizeOf9
  v9 := Tryz.zeroValue9
  t21 := Tryz.underlying21
  a21 := Tryz.isAgg21
  z21 := Tryz.sizeOf21
  v21 := Tryz.zeroValue21
  t46 := Tryz.underlying150
  a46 := Tryz.isAgg150
  z46 := Tryz.sizeOf150
  v46 := Tryz.zeroValue150
  t105 := Tryz.underlying122
  a105 := Tryz.isAgg122
  z105 := Tryz.sizeOf122
  v105 := Tryz.zeroValue122
  t116 := Tryz.underlying106
  a116 := Tryz.isAgg106
  z116 := Tryz.sizeOf106
  t117 := Tryz.underlying107
  a117 := Tryz.isAgg107
  z117 := Tryz.sizeOf107
  v117 := Tryz.zeroValue107
  t119 := Tryz.underlying166
  a119 := Tryz.isAgg166
  z119 := Tryz.sizeOf166
  t124 := Tryz.underlying110
  a124 := Tryz.isAgg110
  z124 := Tryz.sizeOf110
  v124 := Tryz.zeroValue110
  t138 := Tryz.underlying168
  a138 := Tryz.isAgg168
  z138 := Tryz.sizeOf168
  v138 := Tryz.zeroValue168
  t139 := Tryz.underlying169
  a139 := Tryz.isAgg169
  z139 := Tryz.sizeOf169
  v139 := Tryz.zeroValue169
  g3 := by kernel_rfl
  g4 := by kernel_rfl }
open Go.RowKit in
/-- strings.TrimLeft: "TrimLeft returns a slice of the string s with all leading Unicode code points contained in cutset removed.": AT A cutset OF ONE ASCII BYTE. The world is as it was. (LAID: no walk: one application.) -/
theorem Tryz.strings_TrimLeft_one (s : ByteArray) (c : UInt8) (hc : c.toNat < 128) (w : World) :
    Calls Tryz.prog 38 #[.string s, .string ⟨#[c]⟩] w fun e w' => e = .returned (.string ⟨(Lib.trimLeftB s.data.toList c).toArray⟩) ∧ w' = w := Any.strings_TrimLeft_one Tryz.lays161 s c hc w
def Tryz.lays137_ren : Go.Shelf.Ren := ⟨fun | 137 => 65 | 217 => 82 | 266 => 104 | n => n, fun | 9 => 9 | 5 => 5 | 3 => 3 | n => n, fun | n => n⟩
theorem Tryz.lays137 : Go.Proofs.Lays.n137 Tryz.prog Tryz.lays137_ren := {
  mixed := by kernel_rfl
  f137 := Tryz.func65.trans (congrArg some (by kernel_rfl))
  f217 := Tryz.func82.trans (congrArg some (by kernel_rfl))
  f266 := Tryz.func104.trans (congrArg some (by kernel_rfl))
  t3 := Tryz.underlying3
  a3 := Tryz.isAgg3
  z3 := Tryz.sizeOf3
  v3 := Tryz.zeroValue3
  t5 := Tryz.underlying5
  a5 := Tryz.isAgg5
  z5 := Tryz.sizeOf5
  v5 := Tryz.zeroValue5
  t9 := Tryz.underlying9
  a9 := Tryz.isAgg9
  z9 := Tryz.sizeOf9
  v9 := Tryz.zeroValue9 }
open Go.RowKit in
/-- strings.IndexByte: "IndexByte returns the index of the first instance of c in s, or -1 if c is not present in s.": IT RETURNS 'Lib.indexByte s c'; the world is as it was. (LAID: no walk: one application.) -/
theorem Tryz.strings_IndexByte (s : ByteArray) (c : Int) (w : World) :
    Calls Tryz.prog 65 #[.string s, .int .u8 c] w fun e w' => e = .returned (.int .i64 (Lib.indexByte s.data.toList c.toNat.toUInt8)) ∧ w' = w := Any.strings_IndexByte Tryz.lays137 s c w
def Tryz.lays145_ren : Go.Shelf.Ren := ⟨fun | 145 => 64 | 220 => 81 | 219 => 78 | 217 => 82 | 225 => 100 | 224 => 101 | 267 => 102 | 266 => 104 | 314 => 124 | n => n, fun | 9 => 9 | 4 => 4 | 59 => 80 | 3 => 3 | 5 => 5 | 46 => 150 | 146 => 171 | 51 => 170 | n => n, fun | 1 => 1 | n => n⟩
theorem Tryz.lays145 : Go.Proofs.Lays.n145 Tryz.prog Tryz.lays145_ren := {
  mixed := by kernel_rfl
  f145 := Tryz.func64.trans (congrArg some (by kernel_rfl))
  f217 := Tryz.func82.trans (congrArg some (by kernel_rfl))
  f219 := Tryz.func78.trans (congrArg some (by kernel_rfl))
  f220 := Tryz.func81.trans (congrArg some (by kernel_rfl))
  f224 := Tryz.func101.trans (congrArg some (by kernel_rfl))
  f225 := Tryz.func100.trans (congrArg some (by kernel_rfl))
  f266 := Tryz.func104.trans (congrArg some (by kernel_rfl))
  f267 := Tryz.func102.trans (congrArg some (by kernel_rfl))
  f314 := Tryz.func124.trans (congrArg some (by kernel_rfl))
  t3 := Tryz.underlying3
  a3 := Tryz.isAgg3
  z3 := Tryz.sizeOf3
  v3 := Tryz.zeroValue3
  t4 := Tryz.underlying4
  a4 := Tryz.isAgg4
  z4 := Tryz.sizeOf4
  v4 := Tryz.zeroValue4
  t5 := Tryz.underlying5
  a5 := Tryz.isAgg5
  z5 := Tryz.sizeOf5
  v5 := Tryz.zeroValue5
  t9 := Tryz.underlying9
  a9 := Tryz.isAgg9
  z9 := Tryz.sizeOf9
  v9 := Tryz.zeroValue9
  t46 := Tryz.underlying150
  a46 := Tryz.isAgg150
  z46 := Tryz.sizeOf150
  v46 := Tryz.zeroValue150
  t51 := Tryz.underlying170
  a51 := Tryz.isAgg170
  z51 := Tryz.sizeOf170
  v51 := Tryz.zeroValue170
  t59 := Tryz.underlying80
  a59 := Tryz.isAgg80
  z59 := Tryz.sizeOf80
  v59 := Tryz.zeroValue80
  t146 := Tryz.underlying171
  a146 := Tryz.isAgg171
  z146 := Tryz.sizeOf171
  v146 := Tryz.zeroValue171
  g1 := by kernel_rfl }
open Go.RowKit Go.Lib in
/-- strings.Cut: "Cut slices s around the first instance of sep, returning the text before and after sep. The found result reports whether sep appears in s. If sep does not appear in s, cut returns s, "", false.": IT RETURNS 'Lib.cut s sep'; the world is as it was but for the count of draws. (LAID: no walk: one application.) -/
theorem Tryz.strings_Cut (s sep : ByteArray) (m : Int) (w : World) (hs : s.size < 4294967281) (hm : w.cell? ⟨1, 0, none⟩ = some (.int .i64 m)) :
    Calls Tryz.prog 64 #[.string s, .string sep] w fun e w' => e = .returned (.tuple #[.string ⟨(Lib.cut s.data.toList sep.data.toList).1.toArray⟩, .string ⟨(Lib.cut s.data.toList sep.data.toList).2.1.toArray⟩, .bool (Lib.cut s.data.toList sep.data.toList).2.2]) ∧ ∃ n, w' = w.drewN n := Any.strings_Cut Tryz.lays145 s sep m w hs hm
def Tryz.lays99_ren : Go.Shelf.Ren := ⟨fun | 99 => 66 | 206 => 83 | n => n, fun | 9 => 9 | 4 => 4 | 3 => 3 | n => n, fun | n => n⟩
theorem Tryz.lays99 : Go.Proofs.Lays.n99 Tryz.prog Tryz.lays99_ren := {
  mixed := by kernel_rfl
  f99 := Tryz.func66.trans (congrArg some (by kernel_rfl))
  f206 := Tryz.func83.trans (congrArg some (by kernel_rfl))
  t3 := Tryz.underlying3
  a3 := Tryz.isAgg3
  z3 := Tryz.sizeOf3
  v3 := Tryz.zeroValue3
  t4 := Tryz.underlying4
  a4 := Tryz.isAgg4
  z4 := Tryz.sizeOf4
  v4 := Tryz.zeroValue4
  t9 := Tryz.underlying9
  a9 := Tryz.isAgg9
  z9 := Tryz.sizeOf9
  v9 := Tryz.zeroValue9 }
open Go.RowKit Go.Lib in
/-- strings.HasPrefix: "HasPrefix reports whether the string s begins with prefix.": IT RETURNS 'Lib.hasPrefix s prefix'; the world is as it was. (LAID: no walk: one application.) -/
theorem Tryz.strings_HasPrefix (s p : ByteArray) (w : World) :
    Calls Tryz.prog 66 #[.string s, .string p] w fun e w' => e = .returned (.bool (Lib.hasPrefix s.data.toList p.data.toList)) ∧ w' = w := Any.strings_HasPrefix Tryz.lays99 s p w
def Tryz.lays146_ren : Go.Shelf.Ren := ⟨fun | 146 => 25 | 221 => 37 | 268 => 57 | 138 => 58 | 143 => 59 | 195 => 75 | 197 => 76 | 218 => 77 | 219 => 78 | 260 => 99 | 217 => 82 | 225 => 100 | 224 => 101 | 267 => 102 | 266 => 104 | 314 => 124 | n => n, fun | 9 => 9 | 31 => 34 | 3 => 3 | 4 => 4 | 0 => 0 | 105 => 122 | 21 => 21 | 5 => 5 | 46 => 150 | 119 => 166 | 139 => 169 | 138 => 168 | 146 => 171 | 51 => 170 | n => n, fun | 1 => 1 | 3 => 2 | 4 => 3 | n => n⟩
theorem Tryz.lays146 : Go.Proofs.Lays.n146 Tryz.prog Tryz.lays146_ren := {
  mixed := by kernel_rfl
  f138 := Tryz.func58.trans (congrArg some (by kernel_rfl))
  f143 := Tryz.func59.trans (congrArg some (by kernel_rfl))
  f146 := Tryz.func25.trans (congrArg some (by kernel_rfl))
  f195 := Tryz.func75.trans (congrArg some (by kernel_rfl))
  f197 := Tryz.func76.trans (congrArg some (by kernel_rfl))
  f217 := Tryz.func82.trans (congrArg some (by kernel_rfl))
  f218 := Tryz.func77.trans (congrArg some (by kernel_rfl))
  f219 := Tryz.func78.trans (congrArg some (by kernel_rfl))
  f221 := Tryz.func37.trans (congrArg some (by kernel_rfl))
  f224 := Tryz.func101.trans (congrArg some (by kernel_rfl))
  f225 := Tryz.func100.trans (congrArg some (by kernel_rfl))
  f260 := Tryz.func99.trans (congrArg some (by kernel_rfl))
  f266 := Tryz.func104.trans (congrArg some (by kernel_rfl))
  f267 := Tryz.func102.trans (congrArg some (by kernel_rfl))
  f268 := Tryz.func57.trans (congrArg some (by kernel_rfl))
  f314 := Tryz.func124.trans (congrArg some (by kernel_rfl))
  t0 := Tryz.underlying0
  a0 := Tryz.isAgg0
  z0 := Tryz.sizeOf0
  v0 := Tryz.zeroValue0
  t3 := Tryz.underlying3
  a3 := Tryz.isAgg3
  z3 := Tryz.sizeOf3
  v3 := Tryz.zeroValue3
  t4 := Tryz.underlying4
  a4 := Tryz.isAgg4
  z4 := Tryz.sizeOf4
  v4 := Tryz.zeroValue4
  t5 := Tryz.underlying5
  a5 := Tryz.isAgg5
  z5 := Tryz.sizeOf5
  v5 := Tryz.zeroValue5
  t9 := Tryz.underlying9
  a9 := Tryz.isAgg9
  z9 := Tryz.sizeOf9
  v9 := Tryz.zeroValue9
  t21 := Tryz.underlying21
  a21 := Tryz.isAgg21
  z21 := Tryz.sizeOf21
  v21 := Tryz.zeroValue21
  t31 := Tryz.underlying34
  a31 := Tryz.isAgg34
  z31 := Tryz.sizeOf34
  v31 := Tryz.zeroValue34
  t46 := Tryz.underlying150
  a46 := Tryz.isAgg150
  z46 := Tryz.sizeOf150
  v46 := Tryz.zeroValue150
  t51 := Tryz.underlying170
  a51 := Tryz.isAgg170
  z51 := Tryz.sizeOf170
  v51 := Tryz.zeroValue170
  t105 := Tryz.underlying122
  a105 := Tryz.isAgg122
  z105 := Tryz.sizeOf122
  v105 := Tryz.zeroValue122
  t119 := Tryz.underlying166
  a119 := Tryz.isAgg166
  z119 := Tryz.sizeOf166
  t138 := Tryz.underlying168
  a138 := Tryz.isAgg168
  z138 := Tryz.sizeOf168
  v138 := Tryz.zeroValue168
  t139 := Tryz.underlying169
  a139 := Tryz.isAgg169
  z139 := Tryz.sizeOf169
  v139 := Tryz.zeroValue169
  t146 := Tryz.underlying171
  a146 := Tryz.isAgg171
  z146 := Tryz.sizeOf171
  v146 := Tryz.zeroValue171
  g1 := by kernel_rfl
  g3 := by kernel_rfl
  g4 := by kernel_rfl }
open Go.RowKit Go.Lib in
/-- strings.Split. (LAID: no walk: one application.) -/
theorem Tryz.strings_Split (s sep : ByteArray) (m : Int) (w : World) (hs : s.size < 4294967281) (hm : w.cell? ⟨1, 0, none⟩ = some (.int .i64 m)) (h1 : 1 ≤ sep.size) :
    Calls Tryz.prog 25 #[.string s, .string sep] w fun e w' =>
      e = .returned (.slice (some ⟨w.heap.size, 0, none⟩) (Lib.countB s sep + 1) (Lib.countB s sep + 1)) ∧ w' = w.alloc (.cells ((Lib.splitB sep 0 (Lib.countB s sep) s).map Value.string).toArray 9) := Any.strings_Split Tryz.lays146 (by kernel_rfl) s sep m w hs hm h1
def Tryz.laysM146_ren : Go.Shelf.Ren := ⟨fun | 146 => 25 | 221 => 37 | 268 => 57 | 138 => 58 | 143 => 59 | 195 => 75 | 197 => 76 | 218 => 77 | 219 => 78 | 260 => 99 | 217 => 82 | 225 => 100 | 224 => 101 | 267 => 102 | 266 => 104 | 314 => 124 | n => n, fun | 9 => 9 | 31 => 34 | 3 => 3 | 4 => 4 | 0 => 0 | 105 => 122 | 21 => 21 | 5 => 5 | 46 => 150 | 119 => 166 | 139 => 169 | 138 => 168 | 146 => 171 | 51 => 170 | n => n, fun | 1 => 1 | 3 => 2 | 4 => 3 | n => n⟩
theorem Tryz.laysM146 : Go.Proofs.LaysM.n146 Tryz.prog Tryz.laysM146_ren := {
  mixed := by kernel_rfl
  f138 := Tryz.func58.trans (congrArg some (by kernel_rfl))
  f143 := Tryz.func59.trans (congrArg some (by kernel_rfl))
  f146 := Tryz.func25.trans (congrArg some (by kernel_rfl))
  f195 := Tryz.func75.trans (congrArg some (by kernel_rfl))
  f197 := Tryz.func76.trans (congrArg some (by kernel_rfl))
  f217 := Tryz.func82.trans (congrArg some (by kernel_rfl))
  f218 := Tryz.func77.trans (congrArg some (by kernel_rfl))
  f219 := Tryz.func78.trans (congrArg some (by kernel_rfl))
  f221 := Tryz.func37.trans (congrArg some (by kernel_rfl))
  f224 := Tryz.func101.trans (congrArg some (by kernel_rfl))
  f225 := Tryz.func100.trans (congrArg some (by kernel_rfl))
  f260 := Tryz.func99.trans (congrArg some (by kernel_rfl))
  f266 := Tryz.func104.trans (congrArg some (by kernel_rfl))
  f267 := Tryz.func102.trans (congrArg some (by kernel_rfl))
  f268 := Tryz.func57.trans (congrArg some (by kernel_rfl))
  f314 := Tryz.func124.trans (congrArg some (by kernel_rfl))
  t0 := Tryz.underlying0
  a0 := Tryz.isAgg0
  z0 := Tryz.sizeOf0
  v0 := Tryz.zeroValue0
  t3 := Tryz.underlying3
  a3 := Tryz.isAgg3
  z3 := Tryz.sizeOf3
  v3 := Tryz.zeroValue3
  t4 := Tryz.underlying4
  a4 := Tryz.isAgg4
  z4 := Tryz.sizeOf4
  v4 := Tryz.zeroValue4
  t5 := Tryz.underlying5
  a5 := Tryz.isAgg5
  z5 := Tryz.sizeOf5
  v5 := Tryz.zeroValue5
  t9 := Tryz.underlying9
  a9 := Tryz.isAgg9
  z9 := Tryz.sizeOf9
  v9 := Tryz.zeroValue9
  t21 := Tryz.underlying21
  a21 := Tryz.isAgg21
  z21 := Tryz.sizeOf21
  v21 := Tryz.zeroValue21
  t31 := Tryz.underlying34
  a31 := Tryz.isAgg34
  z31 := Tryz.sizeOf34
  v31 := Tryz.zeroValue34
  t46 := Tryz.underlying150
  a46 := Tryz.isAgg150
  z46 := Tryz.sizeOf150
  v46 := Tryz.zeroValue150
  t51 := Tryz.underlying170
  a51 := Tryz.isAgg170
  z51 := Tryz.sizeOf170
  v51 := Tryz.zeroValue170
  t105 := Tryz.underlying122
  a105 := Tryz.isAgg122
  z105 := Tryz.sizeOf122
  v105 := Tryz.zeroValue122
  t119 := Tryz.underlying166
  a119 := Tryz.isAgg166
  z119 := Tryz.sizeOf166
  t138 := Tryz.underlying168
  a138 := Tryz.isAgg168
  z138 := Tryz.sizeOf168
  v138 := Tryz.zeroValue168
  t139 := Tryz.underlying169
  a139 := Tryz.isAgg169
  z139 := Tryz.sizeOf169
  v139 := Tryz.zeroValue169
  t146 := Tryz.underlying171
  a146 := Tryz.isAgg171
  z146 := Tryz.sizeOf171
  v146 := Tryz.zeroValue171
  g1 := by kernel_rfl
  g3 := by kernel_rfl
  g4 := by kernel_rfl
  i0 := by kernel_rfl
  i3 := by kernel_rfl
  i4 := by kernel_rfl
  i5 := by kernel_rfl
  i9 := by kernel_rfl
  i21 := by kernel_rfl
  i31 := by kernel_rfl
  i46 := by kernel_rfl
  i51 := by kernel_rfl
  i105 := by kernel_rfl
  i138 := by kernel_rfl
  i139 := by kernel_rfl
  i146 := by kernel_rfl
  m1 := by kernel_rfl
  s1_3 := fun w h => Go.Proofs.cell_of_shapedOpen_int (zero := #[.int .i64 0]) (t := 3) h (of_decide_eq_true (by kernel_rfl)) (by kernel_rfl) rfl (by kernel_rfl) (by kernel_rfl) Tryz.underlying3
  m3 := by kernel_rfl
  m4 := by kernel_rfl }
def Tryz.lays109_ren : Go.Shelf.Ren := ⟨fun | 109 => 91 | n => n, fun | 31 => 34 | 9 => 9 | 3 => 3 | 0 => 0 | 4 => 4 | n => n, fun | n => n⟩
theorem Tryz.lays109 : Go.Proofs.Lays.n109 Tryz.prog Tryz.lays109_ren := {
  mixed := by kernel_rfl
  f109 := Tryz.func91.trans (congrArg some (by kernel_rfl))
  t0 := Tryz.underlying0
  a0 := Tryz.isAgg0
  z0 := Tryz.sizeOf0
  v0 := Tryz.zeroValue0
  t3 := Tryz.underlying3
  a3 := Tryz.isAgg3
  z3 := Tryz.sizeOf3
  v3 := Tryz.zeroValue3
  t4 := Tryz.underlying4
  a4 := Tryz.isAgg4
  z4 := Tryz.sizeOf4
  v4 := Tryz.zeroValue4
  t9 := Tryz.underlying9
  a9 := Tryz.isAgg9
  z9 := Tryz.sizeOf9
  v9 := Tryz.zeroValue9
  t31 := Tryz.underlying34
  a31 := Tryz.isAgg34
  z31 := Tryz.sizeOf34
  v31 := Tryz.zeroValue34 }
open Go.Lib in
/-- slices.Index at []string: "Index returns the index of the first occurrence of v in s, or -1 if not present.": IT RETURNS 'Lib.idxOfS (the elements) v'; the world is as it was. 'zs': what the cells behind the slice's address hold (its spare capacity too, if you have it); 'zs.take n': its elements. (LAID: no walk: one application.) -/
theorem Tryz.slices_Index_string (b off n c : Nat) (zs : List ByteArray) (x : ByteArray) (w : World) (hz : n ≤ zs.length) (hbig : n ≤ 9223372036854775807) (hc : ∀ j, j < zs.length → w.cell? ⟨b, off + j, none⟩ = some (.string (zs.getD j ByteArray.empty))) :
    Calls Tryz.prog 91 #[.slice (some ⟨b, off, none⟩) n c, .string x] w fun e w' => e = .returned (.int .i64 (Lib.idxOfS (zs.take n) x)) ∧ w' = w := Any.slices_Index_string Tryz.lays109 b off n c zs x w hz hbig hc
open Go.Lib in
/-- The same at a slice of length 0, a nil one too: no cell is known, none is asked for. (LAID: no walk: one application.) -/
theorem Tryz.slices_Index_string_empty (a : Option Addr) (c : Nat) (x : ByteArray) (w : World) :
    Calls Tryz.prog 91 #[.slice a 0 c, .string x] w fun e w' => e = .returned (.int .i64 (Lib.idxOfS [] x)) ∧ w' = w := Any.slices_Index_string_empty Tryz.lays109 a c x w
def Tryz.lays193_ren : Go.Shelf.Ren := ⟨fun | 193 => 146 | n => n, fun | 31 => 34 | 9 => 9 | 4 => 4 | 3 => 3 | 0 => 0 | n => n, fun | n => n⟩
theorem Tryz.lays193 : Go.Proofs.Lays.n193 Tryz.prog Tryz.lays193_ren := {
  mixed := by kernel_rfl
  f193 := Tryz.func146.trans (congrArg some (by kernel_rfl))
  t0 := Tryz.underlying0
  a0 := Tryz.isAgg0
  z0 := Tryz.sizeOf0
  v0 := Tryz.zeroValue0
  t3 := Tryz.underlying3
  a3 := Tryz.isAgg3
  z3 := Tryz.sizeOf3
  v3 := Tryz.zeroValue3
  t4 := Tryz.underlying4
  a4 := Tryz.isAgg4
  z4 := Tryz.sizeOf4
  v4 := Tryz.zeroValue4
  t9 := Tryz.underlying9
  a9 := Tryz.isAgg9
  z9 := Tryz.sizeOf9
  v9 := Tryz.zeroValue9
  t31 := Tryz.underlying34
  a31 := Tryz.isAgg34
  z31 := Tryz.sizeOf34
  v31 := Tryz.zeroValue34 }
open Go.RowKit Go.Lib in
/-- slices.Equal at []string: "Equal reports whether two slices are equal: the same length and all elements equal. If the lengths are different, Equal returns false. Otherwise, the elements are compared in increasing index order, and the comparison stops at the first unequal pair. Empty and nil slices are considered equal.": IT RETURNS WHETHER THE TWO LISTS OF ELEMENTS ARE ONE; the world is as it was but for the count of draws (the test 's1[i] != s2[i]' has two reads, whose order the model draws, once a round). 'xs', 'ys': what the cells behind the two addresses hold (the spare capacity too, if you have it); 'xs.take n', 'ys.take m': the elements. THE TWO SLICES MAY OVERLAP. (LAID: no walk: one application.) -/
theorem Tryz.slices_Equal_string (b1 o1 n c b2 o2 m d : Nat) (xs ys : List ByteArray) (w : World) (hx : n ≤ xs.length) (hy : m ≤ ys.length) (hbig : n ≤ 9223372036854775807) (hbig2 : m ≤ 9223372036854775807) (hc1 : ∀ j, j < xs.length → w.cell? ⟨b1, o1 + j, none⟩ = some (.string (xs.getD j ByteArray.empty))) (hc2 : ∀ j, j < ys.length → w.cell? ⟨b2, o2 + j, none⟩ = some (.string (ys.getD j ByteArray.empty))) :
    Calls Tryz.prog 146 #[.slice (some ⟨b1, o1, none⟩) n c, .slice (some ⟨b2, o2, none⟩) m d] w fun e w' => e = .returned (.bool (decide (xs.take n = ys.take m))) ∧ ∃ q, w' = w.drewN q := Any.slices_Equal_string Tryz.lays193 b1 o1 n c b2 o2 m d xs ys w hx hy hbig hbig2 hc1 hc2
def Tryz.laysNm224_ren : Go.Shelf.Ren := ⟨fun | 24 => 144 | n => n, fun | 24 => 34 | 9 => 9 | 3 => 3 | 4 => 4 | 0 => 0 | n => n, fun | n => n⟩
theorem Tryz.laysNm224 : Go.Proofs.Lays2.n24 Tryz.prog Tryz.laysNm224_ren := {
  mixed := by kernel_rfl
  f24 := Tryz.func144.trans (congrArg some (by kernel_rfl))
  t0 := Tryz.underlying0
  a0 := Tryz.isAgg0
  z0 := Tryz.sizeOf0
  v0 := Tryz.zeroValue0
  t3 := Tryz.underlying3
  a3 := Tryz.isAgg3
  z3 := Tryz.sizeOf3
  v3 := Tryz.zeroValue3
  t4 := Tryz.underlying4
  a4 := Tryz.isAgg4
  z4 := Tryz.sizeOf4
  v4 := Tryz.zeroValue4
  t9 := Tryz.underlying9
  a9 := Tryz.isAgg9
  z9 := Tryz.sizeOf9
  v9 := Tryz.zeroValue9
  t24 := Tryz.underlying34
  a24 := Tryz.isAgg34
  z24 := Tryz.sizeOf34
  v24 := Tryz.zeroValue34
  i9 := by kernel_rfl }
def Tryz.lays187_ren : Go.Shelf.Ren := ⟨fun | 187 => 117 | 255 => 135 | n => n, fun | 37 => 33 | 5 => 5 | 3 => 3 | n => n, fun | n => n⟩
theorem Tryz.lays187 : Go.Proofs.Lays.n187 Tryz.prog Tryz.lays187_ren := {
  mixed := by kernel_rfl
  f187 := Tryz.func117.trans (congrArg some (by kernel_rfl))
  f255 := Tryz.func135.trans (congrArg some (by kernel_rfl))
  t3 := Tryz.underlying3
  a3 := Tryz.isAgg3
  z3 := Tryz.sizeOf3
  v3 := Tryz.zeroValue3
  t5 := Tryz.underlying5
  a5 := Tryz.isAgg5
  z5 := Tryz.sizeOf5
  v5 := Tryz.zeroValue5
  t37 := Tryz.underlying33
  a37 := Tryz.isAgg33
  z37 := Tryz.sizeOf33
  v37 := Tryz.zeroValue33 }
/-- bytes.IndexByte: "IndexByte returns the index of the first instance of c in b, or -1 if c is not present in b.": IT RETURNS 'Lib.indexByte (the bytes of b) c'; the world is as it was. 'xs': the numbers that the slice's cells hold. (LAID: no walk: one application.) -/
theorem Tryz.bytes_IndexByte (b o n c : Nat) (xs : List Int) (cv : Int) (w : World) (hx : xs.length = n) (hc : ∀ i, i < n → w.cell? ⟨b, o + i, none⟩ = some (.int .u8 (xs.getD i 0))) :
    Calls Tryz.prog 117 #[.slice (some ⟨b, o, none⟩) n c, .int .u8 cv] w fun e w' => e = .returned (.int .i64 (Lib.indexByte (Lib.bytesOf xs) cv.toNat.toUInt8)) ∧ w' = w := Any.bytes_IndexByte Tryz.lays187 b o n c xs cv w hx hc
end Go.Proofs

namespace Go.Proofs.YtlccdenafnekjaaGreatDoor
open Go.RowKit
set_option linter.unusedVariables false

theorem wval_index (d : UInt8) : (wval d = none ∧ Lib.indexByte [92, 34, 110, 116] d = -1) ∨ (wval d = some 92 ∧ Lib.indexByte [92, 34, 110, 116] d = 0) ∨ (wval d = some 34 ∧ Lib.indexByte [92, 34, 110, 116] d = 1) ∨
    (wval d = some 10 ∧ Lib.indexByte [92, 34, 110, 116] d = 2) ∨ (wval d = some 9 ∧ Lib.indexByte [92, 34, 110, 116] d = 3) := by
  have : ∀ n : Fin 256, (wval (UInt8.ofNat n.val) = none ∧ Lib.indexByte [92, 34, 110, 116] (UInt8.ofNat n.val) = -1) ∨ (wval (UInt8.ofNat n.val) = some 92 ∧ Lib.indexByte [92, 34, 110, 116] (UInt8.ofNat n.val) = 0) ∨ (wval (UInt8.ofNat n.val) = some 34 ∧ Lib.indexByte [92, 34, 110, 116] (UInt8.ofNat n.val) = 1) ∨
    (wval (UInt8.ofNat n.val) = some 10 ∧ Lib.indexByte [92, 34, 110, 116] (UInt8.ofNat n.val) = 2) ∨ (wval (UInt8.ofNat n.val) = some 9 ∧ Lib.indexByte [92, 34, 110, 116] (UInt8.ofNat n.val) = 3) := by decide +kernel
  have h := this ⟨d.toNat, d.toNat_lt⟩
  simpa using h
theorem signs_any (d : UInt8) (w : World) : Calls Tryz.prog 65 #[.string ⟨#[92, 34, 110, 116]⟩, .int .u8 (d.toNat : Int)] w fun e w' => e = .returned (.int .i64 (Lib.indexByte [92, 34, 110, 116] d)) ∧ w' = w := by
  have h := Tryz.strings_IndexByte ⟨#[92, 34, 110, 116]⟩ (d.toNat : Int) w
  rw [show ((d.toNat : Int)).toNat.toUInt8 = d by simp] at h
  exact h
def valZ : List UInt8 → Nat
  | [] => 0
  | c :: _ => match wval c with
    | none => 0
    | some v => v.toNat
set_option maxRecDepth 100000 in
set_option maxHeartbeats 4000000 in
theorem value_any (s : ByteArray) (w : World) : Calls Tryz.prog 67 #[.string s] w fun e w' => e = .returned (.int .u8 (valZ s.data.toList : Int)) ∧ w' = w := by
  by_cases h0 : s = ⟨#[]⟩
  · subst h0
    go_enter Tryz.func67, Tryz.ntmps67
    go_wp2_with fail
    go_ret
    exact ⟨rfl, rfl⟩
  · obtain ⟨c, t, ht⟩ : ∃ c t, s.data.toList = c :: t := by
      cases hd : s.data.toList with
      | nil => exact absurd (bytes_ext (by rw [hd])) h0
      | cons c t => exact ⟨c, t, rfl⟩
    have he : s.toList.isEmpty = false := by rw [ByteArray.toList_eq, ht]; rfl
    have hsz : 0 < s.size := by
      have : s.data.toList.length = s.size := by simp
      rw [ht] at this
      simp at this
      omega
    have hget : s[0] = c := by
      rw [str_get s 0 hsz, ht]; rfl
    have hs0 : (0 : Int) < (s.size : Int) := by omega
    rw [ht]
    clear ht h0
    have HSG := Lib.hid (fun w => signs_any c w)
    rcases wval_index c with ⟨hv, hx⟩ | ⟨hv, hx⟩ | ⟨hv, hx⟩ | ⟨hv, hx⟩ | ⟨hv, hx⟩ <;>
    · rw [hx] at HSG
      have HV : Hid (valZ (c :: t) = (match wval c with | none => 0 | some v => v.toNat)) := Lib.hid rfl
      rw [hv] at HV
      rw [HV.out]
      clear hx hv HV
      go_enter Tryz.func67, Tryz.ntmps67
      go_wp2_with fail
      refine (HSG.out _).mono ?_
      rintro e w1 ⟨rfl, rfl⟩
      go_wp2_with fail
      go_ret
      exact ⟨rfl, rfl⟩
end Go.Proofs.YtlccdenafnekjaaGreatDoor
namespace Go.Proofs.YtlccdenafnekjaaGreatDoor
open Go.RowKit
set_option linter.unusedVariables false

theorem qd_one (c : UInt8) (acc : List UInt8) : qd [c] acc = if c = 34 then some (acc, []) else none := rfl
theorem qd_two (c d : UInt8) (t acc : List UInt8) : qd (c :: d :: t) acc = if c = 34 then (if d = 32 then some (acc, d :: t) else none) else if c = 92 then (match wval d with
      | none => none
      | some v => qd t (acc ++ [v])) else qd (d :: t) (acc ++ [c]) := rfl
theorem qd_close (r acc : List UInt8) : qd (34 :: r) acc = if r = [] then some (acc, []) else if r.head? = some 32 then some (acc, r) else none := by
  cases r with
  | nil => rw [qd_one, if_pos rfl, if_pos rfl]
  | cons d t =>
    have e : ¬ (d :: t = []) := by intro h; cases h
    rw [qd_two, if_neg e]
    have e2 : (34 : UInt8) = 34 := rfl
    rw [if_pos e2]
    by_cases h : d = 32
    · rw [if_pos h, if_pos (by rw [h]; rfl)]
    · rw [if_neg h, if_neg (by simpa using h)]
theorem qd_esc (d : UInt8) (t acc : List UInt8) {v : UInt8} (h : wval d = some v) : qd (92 :: d :: t) acc = qd t (acc ++ [v]) := by
  rw [qd_two, if_neg (by decide), if_pos rfl, h]
theorem qd_escN (d : UInt8) (t acc : List UInt8) (h : wval d = none) : qd (92 :: d :: t) acc = none := by
  rw [qd_two, if_neg (by decide), if_pos rfl, h]
theorem qd_esc0 (acc : List UInt8) : qd [92] acc = none := by
  rw [qd_one, if_neg (by decide)]
theorem qd_step (c : UInt8) (r acc : List UInt8) (h1 : c ≠ 34) (h2 : c ≠ 92) : qd (c :: r) acc = qd r (acc ++ [c]) := by
  cases r with
  | nil => rw [qd_one, if_neg h1]; rfl
  | cons d t => rw [qd_two, if_neg h1, if_neg h2]
theorem below_rf {B : Nat} {a w : World} (h : Below B a w) (n : Nat) : Below B a (w.drewN n) := ⟨h.os, h.tape, h.output, h.size, h.block⟩
def QP (r : Option (List UInt8 × List UInt8)) (e : Ending) : Prop := match r with
  | some (x, y) => e = .returned (.tuple #[.string ⟨x.toArray⟩, .string ⟨y.toArray⟩, .bool true])
  | none => ∃ u v : ByteArray, e = .returned (.tuple #[.string u, .string v, .bool false])
abbrev u8v (c : UInt8) : Value := .int .u8 (c.toNat : Int)
theorem info_b8 : (Tryz.prog.info? 5).map (fun i => (i.zero, i.size, i.bytes)) = some (some (.int .u8 0), 1, 1) := by kernel_rfl
theorem info_p {P : Program} {t : TypeId} {z : Value} {s b : Nat} (h : (P.info? t).map (fun i => (i.zero, i.size, i.bytes)) = some (some z, s, b)) : ∃ i, P.info? t = some i ∧ i.zero = some z ∧ i.size = s ∧ i.bytes = b := by
  cases hi : P.info? t with
  | none => rw [hi] at h; cases h
  | some i =>
    rw [hi] at h
    simp only [Option.map_some, Option.some.injEq, Prod.mk.injEq] at h
    exact ⟨i, rfl, h.1, h.2.1, h.2.2⟩
/-- 'string(b)' of a row of bytes of the call's own. -/
theorem conv_own {w : World} {B : Nat} {v : Value} {l : List UInt8} (h : w.ownsRow B 5 1 v l.length (l.map u8v)) (hl : l.length ≤ 100000000) : ∀ q, (convert 33 9 v).run Tryz.prog (w.drewN q) = .ok (.string ⟨l.toArray⟩) (w.drewN q) := by
  intro q
  rcases h.2 with ⟨rfl, h0⟩ | ⟨g, cap, cur, rfl, hb, hg, hnc, hcm, hcs, htake⟩
  · obtain rfl : l = [] := List.eq_nil_of_length_eq_zero h0
    rw [run_convert_bytes_string _ 33 9 5 none 0 0 Tryz.underlying33 Tryz.underlying5 Tryz.underlying9]
    rfl
  · refine run_convert_bytes_back _ _ _ 5 ⟨g, 0, none⟩ cap l Tryz.underlying33 Tryz.underlying5 Tryz.underlying9 (fun j hj => ?_)
    have h2 := h.cells (g := g) rfl j (u8v l[j]) (by rw [List.getElem?_map, List.getElem?_eq_getElem hj]; rfl)
    exact h2
theorem ext_list (s : ByteArray) (a : Nat) (h : a ≤ s.size) : (s.extract a s.size).data.toList = s.data.toList.drop a := by
  rw [ByteArray.data_extract, Array.toList_extract, List.extract_eq_take_drop, List.take_of_length_le]
  rw [List.length_drop]; simp
theorem drop_cons {s : ByteArray} {a : Nat} (h : a < s.size) : s.data.toList.drop a = s.data.toList.getD a 0 :: s.data.toList.drop (a + 1) := by
  have hl : a < s.data.toList.length := by simpa using h
  rw [List.drop_eq_getElem_cons hl, List.getD_eq_getElem?_getD, List.getElem?_eq_getElem hl]; rfl
set_option maxRecDepth 100000 in
set_option maxHeartbeats 8000000 in
theorem quoted_any (s : ByteArray) (w : World) (h1 : 1 ≤ s.size) (hs : s.size ≤ 1000000) : Calls Tryz.prog 40 #[.string s] w fun e w' => QP (qd (s.data.toList.tail) []) e ∧ Below w.heap.size w w' := by
  obtain ⟨i0, hi0, hz0, hz1, hz2⟩ := info_p info_b8
  have HI := Lib.hid hi0
  have HZ0 := Lib.hid hz0
  have HZ1 := Lib.hid hz1
  have HZ2 := Lib.hid hz2
  have HSS := Lib.hid hs
  have hsz : (s.size : Int) ≤ 1000000 := by omega
  clear hi0 hz0 hz1 hz2 hs
  go_enter Tryz.func40, Tryz.ntmps40
  go_wp2_with fail
  go_loopg [5, 6] (s.size - 1) (fun gk v5 v6 wr => ∃ (i : Nat) (acc : List UInt8), gk = s.size - i ∧ 1 ≤ i ∧ i ≤ s.size ∧ v6 = .int .i64 (i : Int) ∧ Hid (qd (s.data.toList.drop i) acc = qd (s.data.toList.tail) []) ∧ Hid (acc.length ≤ i) ∧ wr.ownsRow w.heap.size 5 1 v5 acc.length (acc.map u8v) ∧ Below w.heap.size w wr)
  case atStart => exact ⟨1, [], rfl, Nat.le_refl _, h1, rfl, Lib.hid (by rw [List.drop_one]), Lib.hid (Nat.zero_le _), World.ownsRow_nil _ _ _ _, Below.refl _ _⟩
  case round =>
    obtain ⟨i, acc, rfl, hi1, hi, rfl, HQ, HA, how, hb⟩ := hrel
    have HO := Lib.hid how
    have HB := Lib.hid hb
    clear how hb
    by_cases hlt : i < s.size
    · have hki : (i : Int) < (s.size : Int) := by omega
      have hk0 : (0 : Int) ≤ (i : Int) := by omega
      have hget := str_get s i hlt
      have HDR := Lib.hid (drop_cons hlt)
      obtain ⟨c, hc⟩ : ∃ c, c = s.data.toList.getD i 0 := ⟨_, rfl⟩
      rw [← hc] at hget HDR
      have HLT := Lib.hid hlt
      have HCV := Lib.hid (conv_own HO.out (by have := HA.out; have := HSS.out; omega))
      clear hc
      by_cases h34 : c = 34
      · have hc34 : (c.toNat : Int) = 34 := by rw [h34]; rfl
        have hie : (i : Int) + 1 ≤ (s.size : Int) := by omega
        obtain ⟨bh, hbh⟩ : ∃ bh, s.extract (i + 1) s.size = bh := ⟨_, rfl⟩
        have HBL : Hid (bh.data.toList = s.data.toList.drop (i + 1)) := Lib.hid (by rw [← hbh, ext_list s (i + 1) (by have := HLT.out; omega)])
        have HQ2 : Hid (qd (s.data.toList.tail) [] = if s.data.toList.drop (i + 1) = [] then some (acc, []) else if (s.data.toList.drop (i + 1)).head? = some 32 then some (acc, s.data.toList.drop (i + 1)) else none) := Lib.hid (by rw [← HQ.out, HDR.out, h34, qd_close])
        rw [← HBL.out] at HQ2
        clear HQ HDR HA h34
        cases hd : bh.data.toList with
        | nil =>
          obtain rfl : bh = ⟨#[]⟩ := bytes_ext (by rw [hd])
          have HEND : Hid (qd (s.data.toList.tail) [] = some (acc, [])) := Lib.hid (by rw [HQ2.out, if_pos hd])
          clear hd HQ2 HBL
          go_wp2_with fail
          have hcv := HCV.out
          go_quiet (fail)
          go_wp2_with fail
          refine bodyPost_ret (results_tmp3 rfl _ _ _) rfl ?_
          exact ⟨by rw [HEND.out]; rfl, below_rf HB.out _⟩
        | cons d t =>
          have he : bh.toList.isEmpty = false := by rw [ByteArray.toList_eq, hd]; rfl
          have HPX : Hid (∀ q, Calls Tryz.prog 66 #[.string bh, .string ⟨#[32]⟩] (wr.drewN q) fun e w' => e = .returned (.bool (d == 32)) ∧ w' = wr.drewN q) := Lib.hid (fun q => by
            have h := Tryz.strings_HasPrefix bh ⟨#[32]⟩ (wr.drewN q)
            rw [hd] at h
            have e : Lib.hasPrefix (d :: t) [32] = (d == 32) := by simp [Lib.hasPrefix, List.isPrefixOf]; exact Bool.beq_comm
            rw [e] at h
            exact h)
          by_cases h32 : d = 32
          · have HEND : Hid (qd (s.data.toList.tail) [] = some (acc, bh.data.toList)) := Lib.hid (by rw [HQ2.out, if_neg (by rw [hd]; simp), if_pos (by rw [hd, h32]; rfl)])
            have e32 : (d == 32) = true := by rw [h32]; rfl
            rw [e32] at HPX
            clear hd HQ2 HBL h32 e32
            go_wp2_with fail
            have hcv := HCV.out
            go_quiet ((go_at_call 66; exact Calls.quiet_of_same (HPX.out _)))
            go_wp2_with fail
            refine bodyPost_ret (results_tmp3 rfl _ _ _) rfl ?_
            exact ⟨by rw [HEND.out]; rfl, below_rf HB.out _⟩
          · have HEND : Hid (qd (s.data.toList.tail) [] = none) := Lib.hid (by rw [HQ2.out, if_neg (by rw [hd]; simp), if_neg (by rw [hd]; simpa using h32)])
            have e32 : (d == 32) = false := by simpa using h32
            rw [e32] at HPX
            clear hd HQ2 HBL h32 e32
            go_wp2_with fail
            have hcv := HCV.out
            go_quiet ((go_at_call 66; exact Calls.quiet_of_same (HPX.out _)))
            go_wp2_with fail
            refine bodyPost_ret (results_tmp3 rfl _ _ _) rfl ?_
            exact ⟨by rw [HEND.out]; exact ⟨_, _, rfl⟩, below_rf HB.out _⟩
      · have hc34 : ¬ (c.toNat : Int) = 34 := by
          intro h
          exact h34 (UInt8.toNat_inj.1 (by have : c.toNat = 34 := by omega
                                           rw [this]; rfl))
        by_cases h92 : c = 92
        · have hc92 : (c.toNat : Int) = 92 := by rw [h92]; rfl
          have hie : (i : Int) + 1 ≤ (s.size : Int) := by omega
          obtain ⟨bh, hbh⟩ : ∃ bh, s.extract (i + 1) s.size = bh := ⟨_, rfl⟩
          have HBL : Hid (bh.data.toList = s.data.toList.drop (i + 1)) := Lib.hid (by rw [← hbh, ext_list s (i + 1) (by have := HLT.out; omega)])
          have HQ2 : Hid (qd (s.data.toList.tail) [] = qd (92 :: bh.data.toList) acc) := Lib.hid (by rw [← HQ.out, HDR.out, h92, HBL.out])
          have HBS : Hid (bh.data.toList.length = s.size - (i + 1)) := Lib.hid (by rw [HBL.out, List.length_drop]; simp)
          have HDR2 : Hid (s.data.toList.drop (i + 2) = bh.data.toList.drop 1) := Lib.hid (by rw [HBL.out, List.drop_drop])
          clear HQ HDR h92 h34 HBL
          go_wp2_with fail
          refine (value_any bh wr).mono ?_
          rintro e w2 ⟨rfl, hw2⟩
          obtain rfl : wr = w2 := hw2.symm
          clear hw2
          cases hd : bh.data.toList with
          | nil =>
            have HEND : Hid (qd (s.data.toList.tail) [] = none) := Lib.hid (by rw [HQ2.out, hd]; exact qd_esc0 acc)
            have hv0 : valZ [] = 0 := rfl
            rw [hv0]
            clear hd HQ2 hv0
            go_wp2_with fail
            refine bodyPost_ret (results_tmp3 rfl _ _ _) rfl ?_
            exact ⟨by rw [HEND.out]; exact ⟨_, _, rfl⟩, HB.out⟩
          | cons d t =>
            have HDT : Hid (s.data.toList.drop (i + 2) = t) := Lib.hid (by rw [HDR2.out, hd]; rfl)
            have hi2 : i + 2 ≤ s.size := by have := HBS.out; rw [hd, List.length_cons] at this; have := HLT.out; omega
            have hi2' : (i : Int) + 1 < (s.size : Int) := by omega
            have hve : valZ (d :: t) = (match wval d with | none => 0 | some v => v.toNat) := rfl
            rw [hve]
            rw [hd] at HQ2
            clear hve hd HBS HDR2
            cases hv : wval d with
            | none =>
              have HEND : Hid (qd (s.data.toList.tail) [] = none) := Lib.hid (by rw [HQ2.out]; exact qd_escN d t acc hv)
              clear HQ2 hv
              go_wp2_with fail
              refine bodyPost_ret (results_tmp3 rfl _ _ _) rfl ?_
              exact ⟨by rw [HEND.out]; exact ⟨_, _, rfl⟩, HB.out⟩
            | some v =>
              have HQ3 : Hid (qd (s.data.toList.drop (i + 1 + 1)) (acc ++ [v]) = qd (s.data.toList.tail) []) := Lib.hid (by rw [HQ2.out, HDT.out]; exact (qd_esc d t acc hv).symm)
              have hvn : ¬ (v.toNat : Int) = 0 := by
                have := wval_index d
                rw [hv] at this
                rcases this with ⟨h, _⟩ | ⟨h, _⟩ | ⟨h, _⟩ | ⟨h, _⟩ | ⟨h, _⟩
                · cases h
                all_goals (cases h; decide)
              clear HQ2 hv HDT
              go_wp2_with (at_builtin; go_must (refine wpList_append_lies _ rfl (.tmp 43) (.tmp 45) 33 rfl w.heap.size 5 i0 (.int .u8 0) 1 1 Tryz.underlying33 HI.out HZ0.out HZ1.out HZ2.out rfl (by omega) _ acc.length (acc.map u8v) rfl (HO.out.alloc _) ⟨wr.heap.size, 0, none⟩ 1 1 [u8v v] rfl rfl ?b1 ?b2 ?b3 ?b4 ?b5 ?b6 _ rfl ?b7))
              case b1 => (intro j u hj; rw [Addr.add_lit]; exact (Has.new wr [u8v v] _).cellAt (by rw [Nat.zero_add]; exact hj))
              try (case b2 => first | rfl | (intro u hu; simp only [List.mem_cons, List.not_mem_nil, or_false] at hu; rcases hu with rfl; rfl))
              try (case b3 => omega)
              try (case b4 => (have := HA.out; have := HSS.out; have := HLT.out; unfold maxLen; omega))
              try (case b5 => (have := HA.out; have := HSS.out; have := HLT.out; omega))
              try (case b6 => (have := HB.out.size; simp; omega))
              intro g1 cap1 w3 hown hgrow hat hlt2
              have HB3 : Hid (Below w.heap.size w w3) := Lib.hid ((HB.out.alloc HB.out.size _).grown hgrow (by have := HB.out.size; simp; omega) (fun k hk => (HO.out.lt k hk).1))
              have HO3 : Hid (w3.ownsRow w.heap.size 5 1 (.slice (some ⟨g1, 0, none⟩) (acc.length + 1) cap1) (acc ++ [v]).length ((acc ++ [v]).map u8v)) := Lib.hid (by rw [List.length_append, List.map_append]; exact hown)
              have HA3 : Hid ((acc ++ [v]).length ≤ i + 1 + 1) := Lib.hid (by rw [List.length_append, List.length_singleton]; have := HA.out; omega)
              clear hown hgrow hat hlt2
              go_wp2_with fail
              go_roundg (s.size - (i + 1 + 1))
              case rel => exact ⟨i + 1 + 1, acc ++ [v], rfl, by omega, hi2, by first | go_num | rfl, HQ3, HA3, HO3.out, HB3.out⟩
              case measure => have := HLT.out; omega
        · have hc92 : ¬ (c.toNat : Int) = 92 := by
            intro h
            exact h92 (UInt8.toNat_inj.1 (by have : c.toNat = 92 := by omega
                                             rw [this]; rfl))
          have HQ3 : Hid (qd (s.data.toList.drop (i + 1)) (acc ++ [c]) = qd (s.data.toList.tail) []) := Lib.hid (by rw [← HQ.out, HDR.out]; exact (qd_step c _ acc h34 h92).symm)
          clear HQ HDR h34 h92
          go_wp2_with (at_builtin; go_must (refine wpList_append_lies _ rfl (.tmp 43) (.tmp 45) 33 rfl w.heap.size 5 i0 (.int .u8 0) 1 1 Tryz.underlying33 HI.out HZ0.out HZ1.out HZ2.out rfl (by omega) _ acc.length (acc.map u8v) rfl (HO.out.alloc _) ⟨wr.heap.size, 0, none⟩ 1 1 [u8v c] rfl rfl ?d1 ?d2 ?d3 ?d4 ?d5 ?d6 _ rfl ?d7))
          case d1 => (intro j u hj; rw [Addr.add_lit]; exact (Has.new wr [u8v c] _).cellAt (by rw [Nat.zero_add]; exact hj))
          try (case d2 => first | rfl | (intro u hu; simp only [List.mem_cons, List.not_mem_nil, or_false] at hu; rcases hu with rfl; rfl))
          try (case d3 => omega)
          try (case d4 => (have := HA.out; have := HSS.out; have := HLT.out; unfold maxLen; omega))
          try (case d5 => (have := HA.out; have := HSS.out; have := HLT.out; omega))
          try (case d6 => (have := HB.out.size; simp; omega))
          intro g1 cap1 w3 hown hgrow hat hlt2
          have HB3 : Hid (Below w.heap.size w w3) := Lib.hid ((HB.out.alloc HB.out.size _).grown hgrow (by have := HB.out.size; simp; omega) (fun k hk => (HO.out.lt k hk).1))
          have HO3 : Hid (w3.ownsRow w.heap.size 5 1 (.slice (some ⟨g1, 0, none⟩) (acc.length + 1) cap1) (acc ++ [c]).length ((acc ++ [c]).map u8v)) := Lib.hid (by rw [List.length_append, List.map_append]; exact hown)
          have HA3 : Hid ((acc ++ [c]).length ≤ i + 1) := Lib.hid (by rw [List.length_append, List.length_singleton]; have := HA.out; omega)
          clear hown hgrow hat hlt2
          go_wp2_with fail
          go_roundg (s.size - (i + 1))
          case rel => exact ⟨i + 1, acc ++ [c], rfl, by omega, HLT.out, by first | go_num | rfl, HQ3, HA3, HO3.out, HB3.out⟩
          case measure => have := HLT.out; omega
    · obtain rfl : i = s.size := by omega
      have hki : ¬ (s.size : Int) < (s.size : Int) := by omega
      have HEND : Hid (qd (s.data.toList.tail) [] = none) := Lib.hid (by
        have e : s.data.toList.drop s.size = [] := List.drop_of_length_le (by simp)
        rw [← HQ.out, e]; rfl)
      clear HQ
      go_wp2_with fail
      refine bodyPost_ret (results_tmp3 rfl _ _ _) rfl ?_
      exact ⟨by rw [HEND.out]; exact ⟨_, _, rfl⟩, HB.out⟩
end Go.Proofs.YtlccdenafnekjaaGreatDoor
namespace Go.Proofs.YtlccdenafnekjaaGreatDoor
open Go.RowKit
set_option linter.unusedVariables false

/-- The pieces between slashes. -/
def pieces : List UInt8 → List (List UInt8)
  | [] => [[]]
  | c :: t => if c = 47 then [] :: pieces t else match pieces t with
    | [] => [[c]]
    | p :: r => (c :: p) :: r

/-- The names of a path, and the error's number. -/
def splitT (l : List UInt8) : List (List UInt8) × Int :=
  if 400 < l.length then ([], 2) else if l = [] then ([], 0) else if (pieces l).all tName = true then (pieces l, 0) else ([], 4)

/-- The global that strings.Split reads. -/
def MaxW (w : World) : Prop := ∃ m, w.cell? ⟨1, 0, none⟩ = some (.int .i64 m)

theorem MaxW.below {w w' : World} {B : Nat} (h : MaxW w) (hb : Below B w w') (hB : 1 < B) : MaxW w' := by
  obtain ⟨m, hm⟩ := h
  exact ⟨m, (hb.cell (p := ⟨1, 0, none⟩) hB).trans hm⟩

theorem index_miss (b : UInt8) (l : List UInt8) (h : b ≠ 47) : Lib.index (b :: l) [47] = if Lib.index l [47] == -1 then -1 else Lib.index l [47] + 1 := by
  have hp : ([47] : List UInt8).isPrefixOf (b :: l) = false := by simp [List.isPrefixOf, Ne.symm h]
  rw [Lib.index, hp]; simp

theorem splitK_pieces : ∀ s : List UInt8, Lib.splitK [47] 0 (Lib.count s [47]) s = pieces s
  | [] => by rw [Lib.count_miss (by simp [Lib.index])]; rfl
  | b :: t => by
    have ih := splitK_pieces t
    by_cases h : b = 47
    · subst h
      have hix : Lib.index (47 :: t) [47] = ((0 : Nat) : Int) := by rw [Lib.index]; simp [List.isPrefixOf]
      rw [Lib.count_cons_eq, Nat.add_comm, Lib.splitK, hix]
      simp [pieces, ih]
    · rw [Lib.count_cons_ne b 47 t h]
      have hpc : pieces (b :: t) = match pieces t with
        | [] => [[b]]
        | p :: r => (b :: p) :: r := by rw [pieces, if_neg h]
      rw [hpc, ← ih]
      cases hc : Lib.count t [47] with
      | zero => rfl
      | succ k =>
        have hne : Lib.index t [47] ≠ -1 := fun e => by rw [Lib.count_miss e] at hc; cases hc
        have hge := Lib.index_ge t [47]
        obtain ⟨j, hj⟩ : ∃ j : Nat, Lib.index t [47] = j := ⟨(Lib.index t [47]).toNat, by omega⟩
        have hix := index_miss b t h
        rw [if_neg (by rw [beq_iff_eq]; exact hne), hj] at hix
        have e1 : Lib.splitK [47] 0 (k + 1) t = t.take j :: Lib.splitK [47] 0 k (t.drop (j + 1)) := by
          rw [Lib.splitK, hj, if_neg (by rw [beq_iff_eq]; omega)]
          simp
        have e2 : Lib.splitK [47] 0 (k + 1) (b :: t) = (b :: t.take j) :: Lib.splitK [47] 0 k (t.drop (j + 1)) := by
          rw [Lib.splitK, hix, if_neg (by rw [beq_iff_eq]; omega)]
          have : ((j : Int) + 1).toNat = j + 1 := by omega
          rw [this]
          simp
        rw [e1, e2]

theorem all_pieces (l : List ByteArray) : (l.map (·.data.toList)).all tName = l.all fun s => tName s.data.toList := by
  rw [List.all_map]; rfl

theorem splitT_good {s : List UInt8} {l : List ByteArray} (h1 : s.length ≤ 400) (h2 : s ≠ []) (hl : l.map (·.data.toList) = pieces s) (h : ∀ i, i < l.length → tName (l.getD i ⟨#[]⟩).data.toList = true) : splitT s = (pieces s, 0) := by
  unfold splitT
  rw [if_neg (by omega), if_neg h2, if_pos]
  rw [← hl, all_pieces, List.all_eq_true]
  intro x hx
  obtain ⟨i, hi, rfl⟩ := List.mem_iff_getElem.1 hx
  have := h i hi
  rwa [List.getD_eq_getElem?_getD, List.getElem?_eq_getElem hi] at this

theorem splitT_bad {s : List UInt8} {l : List ByteArray} {i : Nat} (h1 : s.length ≤ 400) (h2 : s ≠ []) (hl : l.map (·.data.toList) = pieces s) (hi : i < l.length) (h : tName (l.getD i ⟨#[]⟩).data.toList = false) : splitT s = ([], 4) := by
  unfold splitT
  rw [if_neg (by omega), if_neg h2, if_neg]
  rw [← hl, all_pieces, List.all_eq_true]
  intro hall
  rw [List.getD_eq_getElem?_getD, List.getElem?_eq_getElem hi] at h
  have := hall _ (List.getElem_mem hi)
  simp only [Option.getD_some] at h
  rw [h] at this
  cases this

/-- What a Split tells. -/
def SplitPost (k : IntKind) (r : List (List UInt8) × Int) (w : World) (e : Ending) (w' : World) : Prop :=
  (∃ a n cap l, IsS w' a n cap l ∧ l.map (·.data.toList) = r.1 ∧ e = .returned (.tuple #[.slice a n cap, .int k r.2]) ∧ ∀ x, a = some x → w.heap.size ≤ x.block) ∧ Below w.heap.size w w'

theorem splitPost_nil {k : IntKind} {w w' : World} {c : Int} {e : Ending} (he : e = .returned (.tuple #[.slice none 0 0, .int k c])) (hb : Below w.heap.size w w') : SplitPost k ([], c) w e w' :=
  ⟨⟨none, 0, 0, [], ⟨rfl, .inl rfl, fun _ => ⟨rfl, rfl⟩, Nat.le_refl _, Nat.zero_le _⟩, rfl, he, fun x hx => by cases hx⟩, hb⟩

set_option maxRecDepth 100000 in
set_option maxHeartbeats 8000000 in
theorem split_any (s : ByteArray) (w : World) (hm : MaxW w) :
    Calls Tryz.prog 90 #[.string s] w fun e w' => SplitPost .i64 (splitT s.data.toList) w e w' := by
  have hlen : s.data.toList.length = s.size := by simp
  by_cases h : 400 < s.size
  · have h4 : decide ((400 : Int) < (s.size : Int)) = true := by simp; omega
    have hsp : splitT s.data.toList = ([], 2) := by unfold splitT; rw [if_pos (by rw [hlen]; exact h)]
    rw [hsp]
    clear hlen hsp
    go_enter Tryz.func90, Tryz.ntmps90
    go_wp2_with fail
    go_ret2
    exact splitPost_nil rfl (Below.refl _ _)
  have h4 : decide ((400 : Int) < (s.size : Int)) = false := by simp; omega
  by_cases h0 : s.size = 0
  · have hnil : s.data.toList = [] := List.eq_nil_of_length_eq_zero (by rw [hlen]; exact h0)
    have hs : s = ⟨#[]⟩ := bytes_ext (by rw [hnil])
    subst hs
    clear hlen h0 hnil h
    go_enter Tryz.func90, Tryz.ntmps90
    go_wp2_with fail
    go_ret2
    exact splitPost_nil rfl (Below.refl _ _)
  · have n0 : s.toList.isEmpty = false := by
      rw [ByteArray.toList_eq]
      cases h : s.data.toList with
      | nil => rw [h] at hlen; simp at hlen; omega
      | cons a t => rfl
    have hne : s.data.toList ≠ [] := fun e => by rw [e] at hlen; simp at hlen; omega
    obtain ⟨l, hl⟩ : ∃ l, l = Lib.splitB ⟨#[47]⟩ 0 (Lib.countB s ⟨#[47]⟩) s := ⟨_, rfl⟩
    have hll : l.length = Lib.countB s ⟨#[47]⟩ + 1 := by rw [hl]; exact Lib.splitB_all ⟨#[47]⟩ (by decide) 0 _ s rfl
    have hlp : l.map (·.data.toList) = pieces s.data.toList := by
      rw [hl, Lib.splitB_data]
      exact splitK_pieces _
    obtain ⟨m, hmm⟩ := hm
    have K := Tryz.strings_Split s ⟨#[47]⟩ m w (by omega) hmm (by decide)
    rw [← hl, ← hll] at K
    have HK := Lib.hid K
    have HNE := Lib.hid hne
    have HLP := Lib.hid hlp
    have HLEN := Lib.hid hlen
    obtain ⟨SP, hSP⟩ : ∃ SP, SP = splitT s.data.toList := ⟨_, rfl⟩
    rw [← hSP]
    have HSP := Lib.hid hSP
    have hlb : l.length ≤ 401 := by
      have := Lib.countB_le ⟨#[47]⟩ (by decide) s.size s (Nat.le_refl _)
      omega
    have hle : s.size ≤ 400 := by omega
    have HLE := Lib.hid hle
    clear hlen hne hl hll hlp hmm K hSP h hle
    go_enter Tryz.func90, Tryz.ntmps90
    go_wp2_with fail
    refine HK.out.mono ?_
    rintro e w1 ⟨rfl, hw1⟩
    have x1 : Has w1 w.heap.size (l.map Value.string) 9 := by rw [hw1]; exact Has.new w _ _
    have b1 : Below w.heap.size w w1 := by rw [hw1]; exact (Below.refl _ _).alloc (Nat.le_refl _) _
    have I1 : IsS w1 (some ⟨w.heap.size, 0, none⟩) l.length l.length l := ⟨rfl, .inr ⟨_, _, rfl, x1.lt, fun i hi => by rw [Nat.zero_add]; exact x1.cellAt (by simp [List.getD, hi])⟩, (fun h => by cases h), Nat.le_refl _, by unfold maxLen; omega⟩
    have HI := Lib.hid I1
    have B1 := Lib.hid b1
    have X1 := Lib.hid x1
    clear hw1 x1 b1 I1 HK
    go_wp2_with fail
    go_loopw [16] (fun ii wr => ∃ k : Nat, k ≤ l.length ∧ ii = .int .i64 k ∧ (∀ i, i < k → tName (l.getD i ⟨#[]⟩).data.toList = true) ∧ w1 = wr) (fun ii _ => l.length - (intOf ii).toNat)
    case atStart => exact ⟨0, Nat.zero_le _, rfl, fun i hi => by omega, rfl⟩
    case round =>
      obtain ⟨k, hk, rfl, hok, rfl⟩ := hrel
      by_cases hlt : k < l.length
      · obtain ⟨t, ht⟩ : ∃ t, t = l.getD k ⟨#[]⟩ := ⟨_, rfl⟩
        have hck : w1.cell? ⟨w.heap.size, k, none⟩ = some (.string t) := by rw [ht]; exact X1.out.cellAt (by simp [List.getD, hlt])
        have HT := Lib.hid ht
        have HOK := Lib.hid hok
        have hki : (k : Int) < (l.length : Int) := by omega
        clear ht hok
        cases hn : tName t.data.toList
        · have HN := Lib.hid hn
          have HR := Lib.hid (splitT_bad (by rw [HLEN.out]; exact HLE.out) HNE.out HLP.out hlt (by rw [← HT.out]; exact hn))
          clear hn
          go_wp2_with fail
          refine (name_any _ _).mono ?_
          rintro e w' ⟨rfl, rfl⟩
          rw [HN.out]
          go_wp2_with fail
          go_ret2
          rw [HSP.out, HR.out]
          exact splitPost_nil rfl B1.out
        · have HN := Lib.hid hn
          clear hn
          go_wp2_with fail
          refine (name_any _ _).mono ?_
          rintro e w' ⟨rfl, rfl⟩
          rw [HN.out]
          go_wp2_with fail
          go_roundw
          case rel =>
            refine ⟨k + 1, by omega, by go_num, fun i hi => ?_, by trivial⟩
            by_cases e : i = k
            · subst e; rw [← HT.out]; exact HN.out
            · exact HOK.out i (by omega)
          case measure => simp [intOf]; omega
      · obtain rfl : k = l.length := by omega
        have HR := Lib.hid (splitT_good (by rw [HLEN.out]; exact HLE.out) HNE.out HLP.out hok)
        clear hok
        go_wp2_with fail
        go_ret2
        rw [HSP.out, HR.out]
        exact ⟨⟨_, _, _, l, HI.out, HLP.out, rfl, fun x hx => by cases hx; exact Nat.le_refl _⟩, B1.out⟩

end Go.Proofs.YtlccdenafnekjaaGreatDoor
namespace Go.Proofs.YtlccdenafnekjaaGreatDoor
open Go.RowKit
set_option linter.unusedVariables false

theorem MaxW.lt {w : World} (h : MaxW w) : 1 < w.heap.size := by
  obtain ⟨m, hm⟩ := h
  exact World.block_lt_of_cell? w _ hm
theorem MaxW.later {w w' : World} (h : MaxW w) (hb : Below w.heap.size w w') : MaxW w' := h.below hb h.lt
theorem index_one (c : UInt8) : ∀ l : List UInt8, (Lib.index l [c] = -1 ∧ l.takeWhile (fun x => x != c) = l) ∨ Lib.index l [c] = ((l.takeWhile (fun x => x != c)).length : Int)
  | [] => .inl ⟨rfl, rfl⟩
  | b :: l => by
    by_cases h : b = c
    · subst h
      right
      rw [Lib.index]
      simp [List.isPrefixOf]
    · have hp : ([c] : List UInt8).isPrefixOf (b :: l) = false := by simp [List.isPrefixOf, Ne.symm h]
      have hb : (b != c) = true := by rw [bne_iff_ne]; exact h
      rw [Lib.index, hp, List.takeWhile_cons, if_pos hb]
      rcases index_one c l with ⟨h1, h2⟩ | h1
      · left
        rw [h1, h2]; exact ⟨rfl, rfl⟩
      · right
        have h3 : ¬ Lib.index l [c] = -1 := by omega
        have h4 : (Lib.index l [c] == -1) = false := by rw [beq_eq_false_iff_ne]; exact h3
        simp only [Bool.false_eq_true, if_false]
        rw [if_neg (by rw [h4]; simp), h1, List.length_cons]
        omega
theorem cut_word (l : List UInt8) : (Lib.cut l [32]).1 = l.takeWhile notBl := by
  unfold Lib.cut
  rcases index_one 32 l with ⟨h1, h2⟩ | h1
  · rw [if_neg (by omega)]
    exact h2.symm
  · rw [if_pos (by omega), h1]
    show l.take ((l.takeWhile notBl).length : Int).toNat = l.takeWhile notBl
    rw [Int.toNat_natCast]
    exact (List.prefix_iff_eq_take.1 (List.takeWhile_prefix _)).symm
theorem drop_word (l : List UInt8) : l.drop (l.takeWhile notBl).length = l.dropWhile notBl := by
  have h := List.takeWhile_append_dropWhile (p := notBl) (l := l)
  conv => lhs; rw [← h]
  rw [List.takeWhile_append_dropWhile]
  conv => lhs; arg 2; rw [← h]
  exact List.drop_left' rfl
theorem indexByte_lt (c : UInt8) : ∀ l : List UInt8, (Lib.indexByte l c = -1 ∧ c ∉ l) ∨ (0 ≤ Lib.indexByte l c ∧ c ∈ l)
  | [] => .inl ⟨rfl, by simp⟩
  | b :: l => by
    by_cases h : b = c
    · subst h
      right
      rw [Lib.indexByte]
      simp
    · have hb : (b == c) = false := by rw [beq_eq_false_iff_ne]; exact h
      rw [Lib.indexByte, hb]
      rcases indexByte_lt c l with ⟨h1, h2⟩ | ⟨h1, h2⟩
      · left
        rw [h1]
        exact ⟨rfl, by simp [Ne.symm h, h2]⟩
      · right
        have h4 : (Lib.indexByte l c == -1) = false := by rw [beq_eq_false_iff_ne]; omega
        simp only [h4, Bool.false_eq_true, if_false]
        exact ⟨by omega, by simp [h2]⟩
theorem okW_iff (l : List UInt8) : okW l = true ↔ 34 ∉ l ∧ 92 ∉ l := by
  unfold okW
  rw [List.all_eq_true]
  constructor
  · intro h
    refine ⟨fun hm => ?_, fun hm => ?_⟩
    · have := h _ hm; simp at this
    · have := h _ hm; simp at this
  · rintro ⟨h1, h2⟩ x hx
    simp only [Bool.and_eq_true, bne_iff_ne]
    exact ⟨fun e => h1 (e ▸ hx), fun e => h2 (e ▸ hx)⟩
/-- What reading a word tells. -/
def plainP (l : List UInt8) : Option (List UInt8 × List UInt8) := if okW (l.takeWhile notBl) = true then some (l.takeWhile notBl, l.dropWhile notBl) else none
theorem drewN_below (w : World) (n : Nat) : Below w.heap.size w (w.drewN n) := below_rf (Below.refl _ _) n
set_option maxRecDepth 100000 in
set_option maxHeartbeats 8000000 in
theorem plain_any (s : ByteArray) (w : World) (hm : MaxW w) (hs : s.size ≤ 1000000) : Calls Tryz.prog 39 #[.string s] w fun e w' => QP (plainP s.data.toList) e ∧ Below w.heap.size w w' := by
  obtain ⟨m, hmx⟩ := hm
  have HCT := Lib.hid (Tryz.strings_Cut s ⟨#[32]⟩ m w (by omega) hmx)
  obtain ⟨wd, hwd⟩ : ∃ wd : ByteArray, wd = ⟨(s.data.toList.takeWhile notBl).toArray⟩ := ⟨_, rfl⟩
  have hw : (⟨(Lib.cut s.data.toList (⟨#[32]⟩ : ByteArray).data.toList).1.toArray⟩ : ByteArray) = wd := by
    show (⟨(Lib.cut s.data.toList [32]).1.toArray⟩ : ByteArray) = wd
    rw [cut_word, hwd]
  rw [hw] at HCT
  have HWL : Hid (wd.data.toList = s.data.toList.takeWhile notBl) := Lib.hid (by rw [hwd])
  have hle : wd.size ≤ s.size := by
    have h1 := takeWhile_len notBl s.data.toList
    rw [← HWL.out] at h1
    simpa using h1
  have hle' : (wd.size : Int) ≤ (s.size : Int) := by omega
  obtain ⟨rs, hrs⟩ : ∃ rs, s.extract wd.size s.size = rs := ⟨_, rfl⟩
  have HRL : Hid (rs.data.toList = s.data.toList.dropWhile notBl) := Lib.hid (by
    rw [← hrs, ext_list s wd.size hle, ← drop_word, ← HWL.out]
    congr 1)
  have HSS := Lib.hid hs
  have hidx : ∀ (c : UInt8) (q : Nat) (W : World), Calls Tryz.prog 65 #[.string wd, .int .u8 (c.toNat : Int)] (W.drewN q) fun e w' => e = .returned (.int .i64 (Lib.indexByte wd.data.toList c)) ∧ w' = W.drewN q := fun c q W => by
    have h := Tryz.strings_IndexByte wd (c.toNat : Int) (W.drewN q)
    rw [show ((c.toNat : Int)).toNat.toUInt8 = c by simp] at h
    exact h
  obtain ⟨z1, hz1⟩ : ∃ z, z = Lib.indexByte wd.data.toList 34 := ⟨_, rfl⟩
  obtain ⟨z2, hz2⟩ : ∃ z, z = Lib.indexByte wd.data.toList 92 := ⟨_, rfl⟩
  have HX1 : Hid (∀ (W : World) (q : Nat), Calls Tryz.prog 65 #[.string wd, .int .u8 34] (W.drewN q) fun e w' => e = .returned (.int .i64 z1) ∧ w' = W.drewN q) := Lib.hid (fun W q => by rw [hz1]; exact hidx 34 q W)
  have HX2 : Hid (∀ (W : World) (q : Nat), Calls Tryz.prog 65 #[.string wd, .int .u8 92] (W.drewN q) fun e w' => e = .returned (.int .i64 z2) ∧ w' = W.drewN q) := Lib.hid (fun W q => by rw [hz2]; exact hidx 92 q W)
  have H1 := indexByte_lt 34 wd.data.toList
  have H2 := indexByte_lt 92 wd.data.toList
  rw [← hz1] at H1
  rw [← hz2] at H2
  have hok := okW_iff wd.data.toList
  have HE : Hid (plainP s.data.toList = if okW wd.data.toList = true then some (wd.data.toList, rs.data.toList) else none) := Lib.hid (by unfold plainP; rw [HWL.out, HRL.out])
  clear hmx hw hwd hs hle hidx hz1 hz2 HWL HRL
  go_enter Tryz.func39, Tryz.ntmps39
  go_wp2_with fail
  refine HCT.out.mono ?_
  rintro e w1 ⟨rfl, n, hw1⟩
  have HB1 : Hid (Below w.heap.size w w1) := Lib.hid (by rw [hw1]; exact drewN_below w n)
  clear HCT hw1
  rcases H1 with ⟨h1, m1⟩ | ⟨h1, m1⟩
  · have h1' : z1 < 0 := by omega
    rcases H2 with ⟨h2, m2⟩ | ⟨h2, m2⟩
    · have h2' : z2 < 0 := by omega
      have HEND : Hid (plainP s.data.toList = some (wd.data.toList, rs.data.toList)) := Lib.hid (by rw [HE.out, if_pos (hok.2 ⟨m1, m2⟩)])
      clear h1 h2 m1 m2 hok HE
      go_wp2_with fail
      go_quiet ((go_at_call 65; first | exact Calls.quiet_of_same (HX1.out _ _) | exact Calls.quiet_of_same (HX2.out _ _)))
      go_wp2_with fail
      refine bodyPost_ret (results_tmp3 rfl _ _ _) rfl ?_
      exact ⟨by rw [HEND.out]; rfl, below_rf HB1.out _⟩
    · have h2' : decide (z2 < 0) = false := by rw [decide_eq_false_iff_not]; omega
      have HEND : Hid (plainP s.data.toList = none) := Lib.hid (by rw [HE.out, if_neg (fun h => (hok.1 h).2 m2)])
      clear h1 h2 m1 m2 hok HE
      go_wp2_with fail
      go_quiet ((go_at_call 65; first | exact Calls.quiet_of_same (HX1.out _ _) | exact Calls.quiet_of_same (HX2.out _ _)))
      go_wp2_with fail
      refine bodyPost_ret (results_tmp3 rfl _ _ _) rfl ?_
      exact ⟨by rw [HEND.out]; exact ⟨_, _, rfl⟩, below_rf HB1.out _⟩
  · have h1' : decide (z1 < 0) = false := by rw [decide_eq_false_iff_not]; omega
    have HEND : Hid (plainP s.data.toList = none) := Lib.hid (by rw [HE.out, if_neg (fun h => (hok.1 h).1 m1)])
    clear h1 m1 H2 hok HE
    go_wp2_with fail
    go_quiet ((go_at_call 65; exact Calls.quiet_of_same (HX1.out _ _)))
    go_wp2_with fail
    refine bodyPost_ret (results_tmp3 rfl _ _ _) rfl ?_
    exact ⟨by rw [HEND.out]; exact ⟨_, _, rfl⟩, below_rf HB1.out _⟩
end Go.Proofs.YtlccdenafnekjaaGreatDoor
namespace Go.Proofs.YtlccdenafnekjaaGreatDoor
open Go.RowKit
set_option linter.unusedVariables false

def strV (l : List UInt8) : Value := .string ⟨l.toArray⟩
theorem splN_fuel : ∀ (n m : Nat) (s : List UInt8) (acc : List (List UInt8)), s.length < n → s.length < m → splN n s acc = splN m s acc
  | 0, _, _, _, h, _ => by omega
  | _, 0, _, _, _, h => by omega
  | n + 1, m + 1, s, acc, h1, h2 => by
    have hd := dropWhile_len (fun c => c == 32) s
    unfold splN
    cases hs : dropBl s with
    | nil => rfl
    | cons c t =>
      cases hr : readW (c :: t) with
      | none => simp only [hr]
      | some p =>
        obtain ⟨w, r⟩ := p
        have h3 := readW_len (by rw [← hs]; exact dropBl_head s) hr
        have h4 : (c :: t).length ≤ s.length := by rw [← hs]; exact hd
        simp only [hr]
        exact splN_fuel n m r _ (by omega) (by omega)
theorem splN_end {s : List UInt8} (acc : List (List UInt8)) (h : dropBl s = []) : splN (s.length + 1) s acc = some acc := by
  unfold splN; rw [h]
theorem splN_bad {s t : List UInt8} {c : UInt8} (acc : List (List UInt8)) (h : dropBl s = c :: t) (hr : readW (c :: t) = none) : splN (s.length + 1) s acc = none := by
  unfold splN; rw [h]; simp only [hr]
theorem splN_word {s t w r : List UInt8} {c : UInt8} (acc : List (List UInt8)) (h : dropBl s = c :: t) (hr : readW (c :: t) = some (w, r)) : splN (s.length + 1) s acc = splN (r.length + 1) r (acc ++ [w]) ∧ r.length < s.length ∧ w.length ≤ s.length := by
  have hd := dropWhile_len (fun c => c == 32) s
  have h3 := readW_len (by rw [← h]; exact dropBl_head s) hr
  have h4 : (c :: t).length ≤ s.length := by rw [← h]; exact hd
  refine ⟨?_, by omega, by omega⟩
  have e : splN (s.length + 1) s acc = splN s.length r (acc ++ [w]) := by
    conv => lhs; unfold splN
    rw [h]; simp only [hr]
  rw [e]
  exact splN_fuel _ _ r _ (by omega) (by omega)
/-- What split tells. -/
def SP (w w' : World) (r : Option (List (List UInt8))) (u v : Value) : Prop := match r with
  | some ws => v = .bool true ∧ w'.ownsRow w.heap.size 9 1 u ws.length (ws.map strV)
  | none => v = .bool false ∧ u = .slice none 0 0
set_option maxRecDepth 100000 in
set_option maxHeartbeats 8000000 in
theorem split_words (s : ByteArray) (w : World) (hm : MaxW w) (hs : s.size ≤ 100000) : Calls Tryz.prog 26 #[.string s] w fun e w' => ∃ u v, e = .returned (.tuple #[u, v]) ∧ SP w w' (wordsF s.data.toList) u v ∧ Below w.heap.size w w' := by
  obtain ⟨i0, hi0, hz0, hz1, hz2⟩ := info_p (P := Tryz.prog) (t := 9) (z := .string ByteArray.empty) (s := 1) (b := 16) (by kernel_rfl)
  have HI := Lib.hid hi0
  have HZ0 := Lib.hid hz0
  have HZ1 := Lib.hid hz1
  have HZ2 := Lib.hid hz2
  have HM := Lib.hid hm
  have HSS := Lib.hid hs
  have HW0 : Hid (splN (s.data.toList.length + 1) s.data.toList [] = wordsF s.data.toList) := Lib.hid rfl
  obtain ⟨W, hW⟩ : ∃ W, W = wordsF s.data.toList := ⟨_, rfl⟩
  rw [← hW] at HW0 ⊢
  clear hi0 hz0 hz1 hz2 hm hs hW
  go_enter Tryz.func26, Tryz.ntmps26
  go_wp2_with fail
  go_loopg [0, 4] (s.size + 1) (fun gk v0 v4 wr => ∃ (t : ByteArray) (acc : List (List UInt8)), gk = t.size + 1 ∧ v0 = .string t ∧ Hid (splN (t.data.toList.length + 1) t.data.toList acc = W) ∧ Hid (t.size + acc.length ≤ 100000) ∧ wr.ownsRow w.heap.size 9 1 v4 acc.length (acc.map strV) ∧ Below w.heap.size w wr)
  case atStart => exact ⟨s, [], rfl, rfl, HW0, Lib.hid (by have := HSS.out; simpa using this), World.ownsRow_nil _ _ _ _, Below.refl _ _⟩
  case round =>
    obtain ⟨t, acc, rfl, rfl, HQ, HL, how, hb⟩ := hrel
    have HO := Lib.hid how
    have HB := Lib.hid hb
    have HMW := Lib.hid (HM.out.later hb)
    clear how hb
    have HTR := Lib.hid (Tryz.strings_TrimLeft_one t 32 (by decide) wr)
    obtain ⟨x, hx⟩ : ∃ x : ByteArray, x = ⟨(Lib.trimLeftB t.data.toList 32).toArray⟩ := ⟨_, rfl⟩
    rw [← hx] at HTR
    have HXL : Hid (x.data.toList = dropBl t.data.toList) := Lib.hid (by rw [hx]; rfl)
    have HXS : Hid (x.size ≤ t.size) := Lib.hid (by
      have h1 := dropWhile_len (fun c => c == 32) t.data.toList
      have h2 : x.data.toList.length ≤ t.data.toList.length := by rw [HXL.out]; exact h1
      simpa using h2)
    clear hx
    go_wp2_with fail
    refine HTR.out.mono ?_
    rintro e w1 ⟨rfl, hw1⟩
    obtain rfl : wr = w1 := hw1.symm
    clear hw1 HTR
    cases hd : x.data.toList with
    | nil =>
      obtain rfl : x = ⟨#[]⟩ := bytes_ext (by rw [hd])
      have HEND : Hid (W = some acc) := Lib.hid (by rw [← HQ.out]; exact splN_end acc (HXL.out.symm.trans hd))
      clear hd HXL HQ
      go_wp2_with fail
      refine bodyPost_ret (results_tmp2 rfl _ _ _) rfl ?_
      first | exact ⟨_, _, rfl, by rw [HEND.out]; exact ⟨rfl, HO.out⟩, HB.out⟩ | exact ⟨_, _, rfl, (by rw [HEND.out]; exact ⟨rfl, HO.out⟩), HB.out⟩
    | cons c r0 =>
      have he : x.toList.isEmpty = false := by rw [ByteArray.toList_eq, hd]; rfl
      have hsz : 0 < x.size := by
        have : x.data.toList.length = x.size := by simp
        rw [hd] at this
        simp at this
        omega
      have hget : x[0] = c := by rw [str_get x 0 hsz, hd]; rfl
      have hs0 : (0 : Int) < (x.size : Int) := by omega
      have HD := Lib.hid hd
      have HXB : Hid (dropBl t.data.toList = c :: r0) := Lib.hid (by rw [← HXL.out]; exact hd)
      clear hd HXL
      by_cases h34 : c = 34
      · have hc34 : (c.toNat : Int) = 34 := by rw [h34]; rfl
        have HRD : Hid (readW (c :: r0) = qd r0 []) := Lib.hid (by rw [readW_cons, if_pos h34])
        have HTL : Hid (x.data.toList.tail = r0) := Lib.hid (by rw [HD.out]; rfl)
        clear h34
        go_wp2_with fail
        refine (quoted_any x wr hsz (by have := HXS.out; have := HL.out; omega)).mono ?_
        rintro e w2 ⟨hq, hb⟩
        rw [HTL.out, ← HRD.out] at hq
        cases hr : readW (c :: r0) with
        | none =>
          rw [hr] at hq
          obtain ⟨u, v, rfl⟩ := hq
          have HEND : Hid (W = none) := Lib.hid (by rw [← HQ.out]; exact splN_bad acc HXB.out hr)
          have HB2 : Hid (Below w.heap.size w w2) := Lib.hid (HB.out.trans (hb.mono HB.out.size))
          clear hr hb HQ HXB HRD
          go_wp2_with fail
          refine bodyPost_ret (results_tmp2 rfl _ _ _) rfl ?_
          exact ⟨_, _, rfl, (by rw [HEND.out]; exact ⟨rfl, rfl⟩), HB2.out⟩
        | some p =>
          obtain ⟨wd, r⟩ := p
          rw [hr] at hq
          obtain rfl : e = .returned (.tuple #[.string ⟨wd.toArray⟩, .string ⟨r.toArray⟩, .bool true]) := hq
          obtain ⟨hs1, hs2, hs3⟩ := splN_word acc HXB.out hr
          have HQ2 : Hid (splN (r.length + 1) r (acc ++ [wd]) = W) := Lib.hid (by rw [← HQ.out]; exact hs1.symm)
          have htl : t.data.toList.length = t.size := by simp
          have HRL : Hid (r.length < t.size) := Lib.hid (by rw [← htl]; exact hs2)
          have HO2 := Lib.hid (World.ownsRow.kept (row := none) HO.out ⟨hb.os, hb.tape, hb.output, hb.size, fun k hk _ => hb.block k hk⟩ (by
            cases hv : u4.ownBlock with
            | none => exact .inl rfl
            | some g => exact .inr (by simp)))
          have HB2 : Hid (Below w.heap.size w w2) := Lib.hid (HB.out.trans (hb.mono HB.out.size))
          obtain ⟨wb, hwb⟩ : ∃ wb : ByteArray, (⟨wd.toArray⟩ : ByteArray) = wb := ⟨_, rfl⟩
          obtain ⟨rb, hrb⟩ : ∃ rb : ByteArray, (⟨r.toArray⟩ : ByteArray) = rb := ⟨_, rfl⟩
          have HWB : Hid (strV wd = .string wb) := Lib.hid (by rw [← hwb]; rfl)
          have HRB : Hid (rb.data.toList = r) := Lib.hid (by rw [← hrb])
          have hrz : rb.data.toList.length = rb.size := by simp
          have HRZ : Hid (rb.size = r.length) := Lib.hid (by rw [← hrz, HRB.out])
          rw [hwb, hrb]
          clear hr hb HQ HXB HRD hs1 hs2 hs3 HO HB hwb hrb htl hrz
          go_wp2_with (at_builtin; go_must (refine wpList_append_lies _ rfl (.tmp 26) (.tmp 28) 34 rfl w.heap.size 9 i0 (.string ByteArray.empty) 1 16 Tryz.underlying34 HI.out HZ0.out HZ1.out HZ2.out rfl (by omega) _ acc.length (acc.map strV) rfl (HO2.out.alloc _) ⟨w2.heap.size, 0, none⟩ 1 1 [.string wb] rfl rfl ?b1 ?b2 ?b3 ?b4 ?b5 ?b6 _ rfl ?b7))
          try (case b1 => (intro j u hj; rw [Addr.add_lit]; exact (Has.new w2 [.string wb] _).cellAt (by rw [Nat.zero_add]; exact hj)))
          try (case b2 => first | rfl | (intro u hu; simp only [List.mem_cons, List.not_mem_nil, or_false] at hu; rcases hu with rfl; rfl))
          try (case b3 => omega)
          try (case b4 => (have := HL.out; unfold maxLen; omega))
          try (case b5 => (have := HL.out; omega))
          try (case b6 => (have := HB2.out.size; simp; omega))
          intro g1 cap1 w3 hown hgrow hat hlt2
          have HB3 : Hid (Below w.heap.size w w3) := Lib.hid ((HB2.out.alloc HB2.out.size _).grown hgrow (by have := HB2.out.size; simp; omega) (fun k hk => (HO2.out.lt k hk).1))
          have HO3 : Hid (w3.ownsRow w.heap.size 9 1 (.slice (some ⟨g1, 0, none⟩) (acc.length + 1) cap1) (acc ++ [wd]).length ((acc ++ [wd]).map strV)) := Lib.hid (by rw [List.length_append, List.map_append, List.map_singleton, HWB.out]; exact hown)
          clear hown hgrow hat hlt2
          go_wp2_with fail
          go_roundg (rb.size + 1)
          case rel => exact ⟨rb, acc ++ [wd], rfl, rfl, Lib.hid (by rw [HRB.out]; exact HQ2.out), Lib.hid (by rw [List.length_append, List.length_singleton, HRZ.out]; have := HL.out; have := HRL.out; omega), HO3.out, HB3.out⟩
          case measure => rw [HRZ.out]; have := HRL.out; omega
      · have hc34 : ¬ (c.toNat : Int) = 34 := by
          intro h
          exact h34 (UInt8.toNat_inj.1 (by have : c.toNat = 34 := by omega
                                           rw [this]; rfl))
        have HRD : Hid (readW (c :: r0) = plainP x.data.toList) := Lib.hid (by rw [readW_cons, if_neg h34, HD.out]; rfl)
        clear h34
        go_wp2_with fail
        refine (plain_any x wr HMW.out (by have := HXS.out; have := HL.out; omega)).mono ?_
        rintro e w2 ⟨hq, hb⟩
        rw [← HRD.out] at hq
        cases hr : readW (c :: r0) with
        | none =>
          rw [hr] at hq
          obtain ⟨u, v, rfl⟩ := hq
          have HEND : Hid (W = none) := Lib.hid (by rw [← HQ.out]; exact splN_bad acc HXB.out hr)
          have HB2 : Hid (Below w.heap.size w w2) := Lib.hid (HB.out.trans (hb.mono HB.out.size))
          clear hr hb HQ HXB HRD
          go_wp2_with fail
          refine bodyPost_ret (results_tmp2 rfl _ _ _) rfl ?_
          exact ⟨_, _, rfl, (by rw [HEND.out]; exact ⟨rfl, rfl⟩), HB2.out⟩
        | some p =>
          obtain ⟨wd, r⟩ := p
          rw [hr] at hq
          obtain rfl : e = .returned (.tuple #[.string ⟨wd.toArray⟩, .string ⟨r.toArray⟩, .bool true]) := hq
          obtain ⟨hs1, hs2, hs3⟩ := splN_word acc HXB.out hr
          have HQ2 : Hid (splN (r.length + 1) r (acc ++ [wd]) = W) := Lib.hid (by rw [← HQ.out]; exact hs1.symm)
          have htl : t.data.toList.length = t.size := by simp
          have HRL : Hid (r.length < t.size) := Lib.hid (by rw [← htl]; exact hs2)
          have HO2 := Lib.hid (World.ownsRow.kept (row := none) HO.out ⟨hb.os, hb.tape, hb.output, hb.size, fun k hk _ => hb.block k hk⟩ (by
            cases hv : u4.ownBlock with
            | none => exact .inl rfl
            | some g => exact .inr (by simp)))
          have HB2 : Hid (Below w.heap.size w w2) := Lib.hid (HB.out.trans (hb.mono HB.out.size))
          obtain ⟨wb, hwb⟩ : ∃ wb : ByteArray, (⟨wd.toArray⟩ : ByteArray) = wb := ⟨_, rfl⟩
          obtain ⟨rb, hrb⟩ : ∃ rb : ByteArray, (⟨r.toArray⟩ : ByteArray) = rb := ⟨_, rfl⟩
          have HWB : Hid (strV wd = .string wb) := Lib.hid (by rw [← hwb]; rfl)
          have HRB : Hid (rb.data.toList = r) := Lib.hid (by rw [← hrb])
          have hrz : rb.data.toList.length = rb.size := by simp
          have HRZ : Hid (rb.size = r.length) := Lib.hid (by rw [← hrz, HRB.out])
          rw [hwb, hrb]
          clear hr hb HQ HXB HRD hs1 hs2 hs3 HO HB hwb hrb htl hrz
          go_wp2_with (at_builtin; go_must (refine wpList_append_lies _ rfl (.tmp 26) (.tmp 28) 34 rfl w.heap.size 9 i0 (.string ByteArray.empty) 1 16 Tryz.underlying34 HI.out HZ0.out HZ1.out HZ2.out rfl (by omega) _ acc.length (acc.map strV) rfl (HO2.out.alloc _) ⟨w2.heap.size, 0, none⟩ 1 1 [.string wb] rfl rfl ?d1 ?d2 ?d3 ?d4 ?d5 ?d6 _ rfl ?d7))
          try (case d1 => (intro j u hj; rw [Addr.add_lit]; exact (Has.new w2 [.string wb] _).cellAt (by rw [Nat.zero_add]; exact hj)))
          try (case d2 => first | rfl | (intro u hu; simp only [List.mem_cons, List.not_mem_nil, or_false] at hu; rcases hu with rfl; rfl))
          try (case d3 => omega)
          try (case d4 => (have := HL.out; unfold maxLen; omega))
          try (case d5 => (have := HL.out; omega))
          try (case d6 => (have := HB2.out.size; simp; omega))
          intro g1 cap1 w3 hown hgrow hat hlt2
          have HB3 : Hid (Below w.heap.size w w3) := Lib.hid ((HB2.out.alloc HB2.out.size _).grown hgrow (by have := HB2.out.size; simp; omega) (fun k hk => (HO2.out.lt k hk).1))
          have HO3 : Hid (w3.ownsRow w.heap.size 9 1 (.slice (some ⟨g1, 0, none⟩) (acc.length + 1) cap1) (acc ++ [wd]).length ((acc ++ [wd]).map strV)) := Lib.hid (by rw [List.length_append, List.map_append, List.map_singleton, HWB.out]; exact hown)
          clear hown hgrow hat hlt2
          go_wp2_with fail
          go_roundg (rb.size + 1)
          case rel => exact ⟨rb, acc ++ [wd], rfl, rfl, Lib.hid (by rw [HRB.out]; exact HQ2.out), Lib.hid (by rw [List.length_append, List.length_singleton, HRZ.out]; have := HL.out; have := HRL.out; omega), HO3.out, HB3.out⟩
          case measure => rw [HRZ.out]; have := HRL.out; omega
end Go.Proofs.YtlccdenafnekjaaGreatDoor
namespace Go.Proofs.YtlccdenafnekjaaGreatDoor
open Go.RowKit
set_option linter.unusedVariables false
set_option maxRecDepth 100000

def fmC (f : Nat × List UInt8 × Nat) : List Value := [.int .u8 (f.1 : Int), .string ⟨f.2.1.toArray⟩, .int .i64 (f.2.2 : Int)]
def fmAll : List Value := [(1, [109, 107, 100, 105, 114], 1), (2, [119, 114, 105, 116, 101], 2), (3, [97, 112, 112, 101, 110, 100], 2), (4, [99, 111, 112, 121], 3), (5, [108, 105, 110, 107], 2), (6, [101, 120, 101, 99], 1), (7, [115, 119, 97, 112], 3), (8, [102, 97, 105, 108], 1)].flatMap fmC
/-- recipe.forms lies as the text lays it. -/
def LaidR (w : World) : Prop := ∃ t f, w.heap[0]? = some (.cells fmAll.toArray t f)
theorem LaidR.later {w w' : World} (h : LaidR w) (hb : Below w.heap.size w w') : LaidR w' := by
  obtain ⟨t, f, h⟩ := h
  exact ⟨t, f, (hb.block _ (Array.getElem?_eq_some_iff.1 h).1).trans h⟩
theorem info_fmAll : (Tryz.prog.info? 82).map (·.size) = some fmAll.toArray.size := by kernel_rfl
theorem info_fm : (Tryz.prog.info? 81).map (·.size) = some 3 := by kernel_rfl
theorem info_stp : (Tryz.prog.info? 49).map (·.size) = some 2 := by kernel_rfl
def fmD : Nat × List UInt8 × Nat := (0, [], 0)
theorem idx_fm (k : Nat) (hk : k < 8) (w : World) : (Instr.index 82 (.agg fmAll.toArray) (.int .i64 (k : Int))).run Tryz.prog w = .ok (.agg (fmC (formsF.getD k fmD)).toArray) w := by
  have h : k = 0 ∨ k = 1 ∨ k = 2 ∨ k = 3 ∨ k = 4 ∨ k = 5 ∨ k = 6 ∨ k = 7 := by omega
  rcases h with rfl | rfl | rfl | rfl | rfl | rfl | rfl | rfl <;> (show (Instr.index _ _ _).run _ w = _; kernel_rfl)
theorem mean_hit (ws : List (List UInt8)) (k : Nat) (hk : k < 8) (hno : ∀ j, j < k → (formsF.getD j fmD).2.1 ≠ ws.headD []) (h : (formsF.getD k fmD).2.1 = ws.headD []) : meanF ws = if (formsF.getD k fmD).2.2 = ws.length - 1 then ((formsF.getD k fmD).1, 0) else (0, 1) := by
  have hl : formsF.length = 8 := rfl
  have hf : formsF.find? (fun f => f.2.1 == ws.headD []) = some (formsF.getD k fmD) := by
    rw [List.find?_eq_some_iff_getElem]
    refine ⟨by simpa using h, k, by rw [hl]; exact hk, ?_, fun j hj => ?_⟩
    · rw [List.getD_eq_getElem?_getD, List.getElem?_eq_getElem (by rw [hl]; exact hk)]; rfl
    · have := hno j hj
      rw [List.getD_eq_getElem?_getD, List.getElem?_eq_getElem (by rw [hl]; omega)] at this
      simp only [Option.getD_some] at this
      simpa using this
  unfold meanF
  rw [hf]
theorem mean_no (ws : List (List UInt8)) (hno : ∀ j, j < 8 → (formsF.getD j fmD).2.1 ≠ ws.headD []) : meanF ws = (0, 9) := by
  have hl : formsF.length = 8 := rfl
  have hf : formsF.find? (fun f => f.2.1 == ws.headD []) = none := by
    rw [List.find?_eq_none]
    intro x hx
    obtain ⟨j, hj, rfl⟩ := List.mem_iff_getElem.1 hx
    have := hno j (by rw [hl] at hj; exact hj)
    rw [List.getD_eq_getElem?_getD, List.getElem?_eq_getElem hj] at this
    simp only [Option.getD_some] at this
    simpa using this
  unfold meanF
  rw [hf]
theorem fm_small (k : Nat) : (formsF.getD k fmD).2.2 ≤ 3 ∧ (formsF.getD k fmD).1 ≤ 8 := by
  by_cases hk : k < 8
  · have h : k = 0 ∨ k = 1 ∨ k = 2 ∨ k = 3 ∨ k = 4 ∨ k = 5 ∨ k = 6 ∨ k = 7 := by omega
    rcases h with rfl | rfl | rfl | rfl | rfl | rfl | rfl | rfl <;> decide
  · rw [List.getD_eq_getElem?_getD, List.getElem?_eq_none (by show 8 ≤ k; omega)]
    decide
theorem fm_pos (k : Nat) (hk : k < 8) : 1 ≤ (formsF.getD k fmD).2.2 := by
  have h : k = 0 ∨ k = 1 ∨ k = 2 ∨ k = 3 ∨ k = 4 ∨ k = 5 ∨ k = 6 ∨ k = 7 := by omega
  rcases h with rfl | rfl | rfl | rfl | rfl | rfl | rfl | rfl <;> decide
/-- A slice of texts, told by their bytes. -/
def WdS (w : World) (b off n c : Nat) (ws : List (List UInt8)) : Prop := b < w.heap.size ∧ ws.length = n ∧ n ≤ c ∧ c ≤ maxLen ∧ ∀ i, i < n → w.cell? ⟨b, off + i, none⟩ = some (strV (ws.getD i []))
theorem WdS.later {w w' : World} {b off n c : Nat} {ws : List (List UInt8)} (h : WdS w b off n c ws) (hb : Below w.heap.size w w') : WdS w' b off n c ws :=
  ⟨Nat.lt_of_lt_of_le h.1 hb.size, h.2.1, h.2.2.1, h.2.2.2.1, fun i hi => (hb.cell (p := ⟨b, off + i, none⟩) h.1).trans (h.2.2.2.2 i hi)⟩
theorem results_cell_tmp_row {P : Program} {fn : Func} {p u : Tmp} {ty : TypeId} (h : fn.results = #[.cell p ty, .tmp u]) (tmps : Array Value) (w : World) (g : Nat) (t : TypeId) (cs : Array Value) (fr : Nat × Nat) (d : TypeDesc)
    (hp : tmps.getD p undef = .pointer (some ⟨g, 0, none⟩)) (hg : w.heap[g]? = some (.cells cs t fr))
    (hu : P.underlying ty = some d) (hd : (match d with | .struct _ | .array _ _ => true | _ => false) = true) (hi : (P.info? ty).map (·.size) = some cs.size) :
    (results fn tmps).run P w = .ok (.tuple #[.agg cs, tmps.getD u undef]) w := by
  have hp' : tmps[p]?.getD undef = .pointer (some ⟨g, 0, none⟩) := by simpa using hp
  simp [results, h, hp', asAddr, run_loadVar_row w g t ty cs fr d hg hu hd hi]
def MP (r : Nat × Nat) (b off n c : Nat) (e : Ending) : Prop :=
  if r.2 = 0 then e = .returned (.tuple #[.agg #[.int .u8 (r.1 : Int), .slice (some ⟨b, off + 1, none⟩) (n - 1) (c - 1)], .int .i64 0])
  else e = .returned (.tuple #[.agg #[.int .u8 0, .slice none 0 0], .int .i64 (r.2 : Int)])

set_option maxHeartbeats 8000000 in
theorem meant_any (w : World) (b off n c : Nat) (ws : List (List UInt8)) (h : WdS w b off n c ws) (h1 : 1 ≤ n) (hn : n ≤ 1000000) (hL : LaidR w) :
    Calls Tryz.prog 27 #[.slice (some ⟨b, off, none⟩) n c] w fun e w' => MP (meanF ws) b off n c e ∧ Below w.heap.size w w' := by
  have HH := Lib.hid h
  have HN := Lib.hid hn
  have H1 := Lib.hid h1
  obtain ⟨w0, hw0⟩ : ∃ w0, w0 = ws.getD 0 [] := ⟨_, rfl⟩
  have HW0 : Hid (ws.headD [] = w0) := Lib.hid (by
    rw [hw0]
    cases ws with
    | nil => rfl
    | cons x t => rfl)
  obtain ⟨wb, hwb⟩ : ∃ wb : ByteArray, wb = ⟨w0.toArray⟩ := ⟨_, rfl⟩
  have HC0 : Hid (∀ W, Below w.heap.size w W → W.cell? ⟨b, off, none⟩ = some (.string wb)) := Lib.hid (fun W hb => by
    have := (hb.cell (p := ⟨b, off + 0, none⟩) h.1).trans (h.2.2.2.2 0 (by omega))
    rw [Nat.add_zero, ← hw0] at this
    rw [hwb]; exact this)
  have HWB := Lib.hid hwb
  obtain ⟨t0, f0, hsg⟩ := hL
  obtain ⟨R, hR⟩ : ∃ R, R = fmAll.toArray := ⟨_, rfl⟩
  have HI := Lib.hid info_fmAll
  rw [← hR] at hsg HI
  have hlt : 0 < w.heap.size := (Array.getElem?_eq_some_iff.1 hsg).1
  have HR := Lib.hid hR
  have hnn : (0 : Int) < (n : Int) := by omega
  have hnb : (n : Int) ≤ 1000000 := by omega
  have hnc : (n : Int) ≤ (c : Int) := by have := h.2.2.1; omega
  have h1n : (1 : Int) ≤ (n : Int) := by omega
  have h1c : (1 : Int) ≤ (c : Int) := by omega
  obtain ⟨G, hG⟩ : ∃ G, G = w.heap.size := ⟨_, rfl⟩
  obtain ⟨w1, hw1⟩ : ∃ w1, w1 = w.alloc (.cells #[.int .u8 0, .slice none 0 0] 49) := ⟨_, rfl⟩
  have Z1 : Hid (Has w1 G [.int .u8 0, .slice none 0 0] 49) := Lib.hid (by rw [hw1, hG]; exact Has.new w _ _)
  have B1 : Hid (Below G w w1) := Lib.hid (by rw [hw1, hG]; exact (Below.refl _ _).alloc (Nat.le_refl _) _)
  have HSG : Hid (w1.heap[0]? = some (.cells R t0 f0)) := Lib.hid ((B1.out.block _ (by rw [hG]; exact hlt)).trans hsg)
  have HG := Lib.hid hG
  have HW1 := Lib.hid hw1
  clear h hsg hR hlt hw1 hG h1 hn hw0 hwb
  go_enter Tryz.func27, Tryz.ntmps27
  go_upto_region 1 with fail
  rw [← HW1.out, ← HG.out]
  clear HW1
  go_wp2_with (refine wpList_load_row rfl 82 _ rfl 0 rfl t0 R f0 _ HSG.out Tryz.underlying82 rfl HI.out ?_)
  go_loopw [7] (fun ii wr => ∃ k : Nat, k ≤ 8 ∧ ii = .int .i64 k ∧ Hid (Has wr G [.int .u8 0, .slice none 0 0] 49) ∧ Hid (Below G w wr) ∧ Hid (∀ j, j < k → (formsF.getD j fmD).2.1 ≠ ws.headD [])) (fun ii _ => 8 - (intOf ii).toNat)
  case atStart => exact ⟨0, Nat.zero_le _, rfl, Z1, B1, Lib.hid (fun j hj => by omega)⟩
  case round =>
    clear Z1 B1 HSG
    obtain ⟨k, hk, rfl, hz, hb, hno⟩ := hrel
    by_cases hlt : k < 8
    · have hki : (k : Int) < 8 := by omega
      obtain ⟨sg, hs⟩ : ∃ sg, sg = formsF.getD k fmD := ⟨_, rfl⟩
      obtain ⟨sb, hsb⟩ : ∃ sb : ByteArray, sb = ⟨sg.2.1.toArray⟩ := ⟨_, rfl⟩
      have hidx : ∀ w : World, (Instr.index 82 (.agg R) (.int .i64 (k : Int))).run Tryz.prog w = .ok (.agg #[.int .u8 (sg.1 : Int), .string sb, .int .i64 (sg.2.2 : Int)]) w := fun w => by
        rw [HR.out, idx_fm k hlt w, ← hs, hsb]; rfl
      obtain ⟨N, hN⟩ : ∃ N, N = wr.heap.size := ⟨_, rfl⟩
      obtain ⟨w2, hw2⟩ : ∃ w2, w2 = wr.alloc (.cells #[.int .u8 (sg.1 : Int), .string sb, .int .i64 (sg.2.2 : Int)] 81) := ⟨_, rfl⟩
      have hb2 : Below N wr w2 := by rw [hw2, hN]; exact (Below.refl _ _).alloc (Nat.le_refl _) _
      have X2 : Hid (Has w2 N [.int .u8 (sg.1 : Int), .string sb, .int .i64 (sg.2.2 : Int)] 81) := Lib.hid (by rw [hw2, hN]; exact Has.new wr _ _)
      have Z2 := Lib.hid (hz.out.below hb2 (by rw [hN]; exact hz.out.lt))
      have B2 : Hid (Below G w w2) := Lib.hid (hb.out.trans (hb2.mono (by rw [hN]; exact Nat.le_of_lt hz.out.lt)))
      have HNG : Hid (G < N) := Lib.hid (by rw [hN]; exact hz.out.lt)
      have HSN : Hid (N < w2.heap.size) := Lib.hid X2.out.lt
      have hsb0 := Lib.hid hsb
      have HS := Lib.hid hs
      have HN2 := Lib.hid hN
      have HW2 := Lib.hid hw2
      have HSM : Hid (sg.2.2 ≤ 3 ∧ sg.1 ≤ 8 ∧ 1 ≤ sg.2.2) := Lib.hid (by rw [hs]; exact ⟨(fm_small k).1, (fm_small k).2, fm_pos k hlt⟩)
      have HK8 := Lib.hid hlt
      have c0 : w2.cell? ⟨b, off, none⟩ = some (.string wb) := HC0.out w2 (by rw [← HG.out]; exact B2.out)
      clear hs hsb hN hw2 hb2 hz hb
      go_upto_region 4 with fail
      clear hidx
      rw [← HW2.out, ← HN2.out]
      have y1 : w2.cell? ⟨N, 1, none⟩ = some (.string sb) := X2.out.cellAt (i := 1) rfl
      clear HW2
      by_cases heq : sb = wb
      · have he : (sb.toList == wb.toList) = true := by rw [heq]; simp
        have HEQ : Hid (sg.2.1 = ws.headD []) := Lib.hid (by
          rw [HW0.out]
          have h1 := (hsb0.out.symm.trans heq).trans HWB.out
          have h2 := congrArg (fun x : ByteArray => x.data.toList) h1
          simpa using h2)
        have HHIT : Hid (meanF ws = if sg.2.2 = ws.length - 1 then (sg.1, 0) else (0, 1)) := Lib.hid (by rw [HS.out]; exact mean_hit ws k HK8.out hno.out (by rw [← HS.out]; exact HEQ.out))
        clear heq hno
        go_quiet (fail)
        have y2 : w2.cell? ⟨N, 2, none⟩ = some (.int .i64 (sg.2.2 : Int)) := X2.out.cellAt (i := 2) rfl
        have ZQ : Hid (Has (w2.drewN nq) G [.int .u8 0, .slice none 0 0] 49) := Lib.hid (Z2.out.below (drewN_below w2 nq) Z2.out.lt)
        have BQ : Hid (Below G w (w2.drewN nq)) := Lib.hid (below_rf B2.out nq)
        have hl := HH.out.2.1
        by_cases hnum : sg.2.2 = n - 1
        · have hn2 : ((sg.2.2 : Int) != (n : Int) - 1) = false := by rw [bne_eq_false_iff_eq]; have := H1.out; omega
          have HM : Hid (meanF ws = (sg.1, 0)) := Lib.hid (by rw [HHIT.out, if_pos (by rw [hl]; exact hnum)])
          have hc1 : ¬ c = 1 := by have := HSM.out; omega
          clear hnum HHIT hl
          go_upto_region 7 with fail
          refine wp_region_held_drew (S := fun _ => True) (by kernel_rfl) trivial (fun hHeld => ?_)
          obtain ⟨v0, hv0⟩ : ∃ v0, v0 = (w2.drewN nq).drew := ⟨_, rfl⟩
          have hbv : Below w2.heap.size w2 v0 := by rw [hv0]; exact (drewN_below w2 nq).drew
          have y0 : v0.cell? ⟨N, 0, none⟩ = some (.int .u8 (sg.1 : Int)) := (X2.out.below hbv X2.out.lt).cellAt (i := 0) rfl
          have ZV : Hid (Has v0 G [.int .u8 0, .slice none 0 0] 49) := Lib.hid (Z2.out.below hbv Z2.out.lt)
          have BV : Hid (Below G w v0) := Lib.hid (B2.out.trans (hbv.mono (Nat.le_of_lt Z2.out.lt)))
          rw [← hv0]
          clear hbv hv0
          refine wpAnyH_take (i := 0) (oi := { dst := some 23, op := Op.fieldAddr 81 (Operand.tmp 5) 0, type := 0, pos := "recipe.go:64", after := #[], guard := none }) (v := .pointer (some ⟨N, 0, none⟩)) rfl (by kernel_rfl) (by kernel_rfl) (by kernel_rfl) (fun _ _ _ h => h)
            (Or.inl ⟨by rfl, by intro w hSw;  clear hSw; go_simp⟩) hHeld ?_
          try simp only [Act.put, List.setIfInBounds_toArray, List.set_cons_zero, List.set_cons_succ]
          refine wpAnyH_take (i := 2) (oi := { dst := some 25, op := Op.move (Operand.tmp 0), type := 34, pos := "recipe.go:64", after := #[], guard := none }) (v := .slice (some ⟨b, off, none⟩) n c) rfl (by kernel_rfl) (by kernel_rfl) (by kernel_rfl) (fun _ _ _ h => h)
            (Or.inl ⟨by rfl, by intro w hSw;  clear hSw; go_simp⟩) hHeld ?_
          try simp only [Act.put, List.setIfInBounds_toArray, List.set_cons_zero, List.set_cons_succ]
          refine wpAnyH_take (i := 3) (oi := { dst := some 26, op := Op.slice 34 (Operand.tmp 25) (some (Operand.const (Value.int IntKind.i64 1))) none none, type := 34, pos := "recipe.go:64", after := #[{ on := 2, ground := Ground.data }], guard := none }) (v := .slice (some ⟨b, off + 1, none⟩) (n - 1) (c - 1)) rfl (by kernel_rfl) (by kernel_rfl) (by kernel_rfl) (fun _ _ _ h => h)
            (Or.inl ⟨by rfl, by intro w hSw;  clear hSw; go_simp⟩) hHeld ?_
          try simp only [Act.put, List.setIfInBounds_toArray, List.set_cons_zero, List.set_cons_succ]
          refine wpAnyH_ready (rs := [1]) (by kernel_rfl) (by simp) ?_
          refine AllReadyH.cons (o := { dst := some 24, op := Op.load 5 (Operand.tmp 23), type := 5, pos := "recipe.go:64", after := #[{ on := 0, ground := Ground.data }], guard := none }) rfl (fun K hK => ?_) AllReadyH.nil
          go_simp
          refine hK.out _ _ trivial (fun hHw1 => ?_)
          clear hK K hHeld
          try simp only [Act.put, List.setIfInBounds_toArray, List.set_cons_zero, List.set_cons_succ]
          refine wpAnyH_take (i := 4) (oi := { dst := some 27, op := Op.build 49 #[(0, Operand.tmp 24), (1, Operand.tmp 26)], type := 49, pos := "recipe.go:64", after := #[{ on := 1, ground := Ground.data }, { on := 3, ground := Ground.data }], guard := none }) (v := .agg #[.int .u8 (sg.1 : Int), .slice (some ⟨b, off + 1, none⟩) (n - 1) (c - 1)]) rfl (by kernel_rfl) (by kernel_rfl) (by kernel_rfl) (fun _ _ _ h => h)
            (Or.inl ⟨by rfl, by intro w hSw;  clear hSw; go_simp⟩) hHw1 ?_
          try simp only [Act.put, List.setIfInBounds_toArray, List.set_cons_zero, List.set_cons_succ]
          refine wpAnyH_ready (rs := [5]) (by kernel_rfl) (by simp) ?_
          refine AllReadyH.cons (o := { dst := none, op := Op.store 49 (Operand.tmp 2) (Operand.tmp 27), type := 0, pos := "recipe.go:64", after := #[{ on := 4, ground := Ground.data }, { on := 0, ground := Ground.phase }, { on := 1, ground := Ground.phase }, { on := 2, ground := Ground.phase }, { on := 3, ground := Ground.phase }, { on := 4, ground := Ground.phase }], guard := none }) rfl (fun K hK => ?_) AllReadyH.nil
          rw [if_pos (by rfl)]
          refine wp_store_row 49 (.tmp 2) (.tmp 27) rfl G #[.int .u8 (sg.1 : Int), .slice (some ⟨b, off + 1, none⟩) (n - 1) (c - 1)] rfl rfl 49 #[.int .u8 0, .slice none 0 0] (show _ from ZV.out) info_stp rfl (by simp [Value.oneCell']) ?_
          refine hK.out _ _ trivial (fun hHw2 => ?_)
          clear hK K hHw1
          try simp only [Act.put]
          refine wpAnyH_take (i := 6) (oi := { dst := some 3, op := Op.assign (Operand.const (Value.int IntKind.i64 0)), type := 24, pos := "recipe.go:64", after := #[{ on := 5, ground := Ground.chain }, { on := 0, ground := Ground.phase }, { on := 1, ground := Ground.phase }, { on := 2, ground := Ground.phase }, { on := 3, ground := Ground.phase }, { on := 4, ground := Ground.phase }, { on := 5, ground := Ground.phase }], guard := none }) (v := .int .i64 0) rfl (by kernel_rfl) (by kernel_rfl) (by kernel_rfl) (fun _ _ _ h => h)
            (Or.inl ⟨by rfl, by intro w hSw;  clear hSw; go_simp⟩) hHw2 ?_
          try simp only [Act.put, List.setIfInBounds_toArray, List.set_cons_zero, List.set_cons_succ]
          refine wpAnyH_done (by kernel_rfl) ?_ _
          clear hHw2
          go_wp2_with fail
          refine bodyPost_ret (results_cell_tmp_row (fn := Tryz.f27) (p := 2) (u := 3) (ty := 49) Tryz.results27 _ _ G 49 #[.int .u8 (sg.1 : Int), .slice (some ⟨b, off + 1, none⟩) (n - 1) (c - 1)] (0, 0) _ rfl (setRow_heap _ _ _ _ _ _ (show _ from ZV.out)) Tryz.underlying49 rfl info_stp) rfl ?_
          exact ⟨by rw [HM.out]; exact rfl, by rw [← HG.out]; exact below_setRow BV.out (Nat.le_refl _) _⟩
        · have hn2 : ((sg.2.2 : Int) != (n : Int) - 1) = true := by rw [bne_iff_ne]; have := H1.out; omega
          have HM : Hid (meanF ws = (0, 1)) := Lib.hid (by rw [HHIT.out, if_neg (by rw [hl]; exact hnum)])
          clear hnum HHIT hl
          go_wp2_with (refine wpList_store_row rfl 49 _ _ rfl G #[.int .u8 0, .slice none 0 0] rfl rfl 49 _ ZQ.out info_stp rfl (by simp [Value.oneCell']) ?_)
          try simp only [Exit.inBlock, Exit.then]
          refine bodyPost_ret (results_cell_tmp_row (fn := Tryz.f27) (p := 2) (u := 3) (ty := 49) Tryz.results27 _ _ G 49 #[.int .u8 0, .slice none 0 0] (0, 0) _ rfl (setRow_heap _ _ _ _ _ _ (show _ from ZQ.out)) Tryz.underlying49 rfl info_stp) rfl ?_
          exact ⟨by rw [HM.out]; exact rfl, by rw [← HG.out]; exact below_setRow BQ.out (Nat.le_refl _) _⟩
      · have he : (sb.toList == wb.toList) = false := by rw [Lib.bytes_beq_false_iff]; exact heq
        have HNO2 : Hid (∀ j, j < k + 1 → (formsF.getD j fmD).2.1 ≠ ws.headD []) := Lib.hid (fun j hj => by
          by_cases hj2 : j < k
          · exact hno.out j hj2
          · obtain rfl : j = k := by omega
            rw [← HS.out, HW0.out]
            intro e
            exact heq (by rw [hsb0.out, HWB.out, e]))
        clear heq hno
        go_quiet (fail)
        go_wp2_with fail
        go_roundw
        case rel => exact ⟨k + 1, HK8.out, by go_num, Lib.hid (Z2.out.below (drewN_below w2 nq) Z2.out.lt), Lib.hid (below_rf B2.out _), HNO2⟩
        case measure => have := HK8.out; simp [intOf]; omega
    · obtain rfl : k = 8 := by omega
      have hki : ¬ (8 : Int) < 8 := by omega
      have HM := Lib.hid (mean_no ws hno.out)
      have HB := Lib.hid hb.out
      have HZ := Lib.hid hz.out
      clear hno hb hz
      go_wp2_with (refine wpList_store_row rfl 49 _ _ rfl G #[.int .u8 0, .slice none 0 0] rfl rfl 49 _ HZ.out info_stp rfl (by simp [Value.oneCell']) ?_)
      try simp only [Exit.inBlock, Exit.then]
      refine bodyPost_ret (results_cell_tmp_row (fn := Tryz.f27) (p := 2) (u := 3) (ty := 49) Tryz.results27 _ _ G 49 #[.int .u8 0, .slice none 0 0] (0, 0) _ rfl (setRow_heap _ _ _ _ _ _ (show _ from HZ.out)) Tryz.underlying49 rfl info_stp) rfl ?_
      exact ⟨by rw [HM.out]; exact rfl, by rw [← HG.out]; exact below_setRow HB.out (Nat.le_refl _) _⟩
end Go.Proofs.YtlccdenafnekjaaGreatDoor
namespace Go.Proofs.YtlccdenafnekjaaGreatDoor
open Go.RowKit
set_option linter.unusedVariables false
set_option maxRecDepth 100000

/-- Is a step formed. -/
def okF (k n : Nat) : Bool := match formsF.find? (fun f => f.1 == k) with
  | none => false
  | some f => f.2.2 == n
theorem ok_hit (q n k : Nat) (hk : k < 8) (hno : ∀ j, j < k → (formsF.getD j fmD).1 ≠ q) (h : (formsF.getD k fmD).1 = q) : okF q n = ((formsF.getD k fmD).2.2 == n) := by
  have hl : formsF.length = 8 := rfl
  have hf : formsF.find? (fun f => f.1 == q) = some (formsF.getD k fmD) := by
    rw [List.find?_eq_some_iff_getElem]
    refine ⟨by simpa using h, k, by rw [hl]; exact hk, ?_, fun j hj => ?_⟩
    · rw [List.getD_eq_getElem?_getD, List.getElem?_eq_getElem (by rw [hl]; exact hk)]; rfl
    · have := hno j hj
      rw [List.getD_eq_getElem?_getD, List.getElem?_eq_getElem (by rw [hl]; omega)] at this
      simp only [Option.getD_some] at this
      simpa using this
  unfold okF
  rw [hf]
theorem ok_no (q n : Nat) (hno : ∀ j, j < 8 → (formsF.getD j fmD).1 ≠ q) : okF q n = false := by
  have hl : formsF.length = 8 := rfl
  have hf : formsF.find? (fun f => f.1 == q) = none := by
    rw [List.find?_eq_none]
    intro x hx
    obtain ⟨j, hj, rfl⟩ := List.mem_iff_getElem.1 hx
    have := hno j (by rw [hl] at hj; exact hj)
    rw [List.getD_eq_getElem?_getD, List.getElem?_eq_getElem hj] at this
    simp only [Option.getD_some] at this
    simpa using this
  unfold okF
  rw [hf]
set_option maxHeartbeats 8000000 in
theorem stepok_any (w : World) (q n : Nat) (a : Option Addr) (c : Nat) (hq : q < 256) (hL : LaidR w) :
    Calls Tryz.prog 42 #[.agg #[.int .u8 (q : Int), .slice a n c]] w fun e w' => e = .returned (.bool (okF q n)) ∧ Below w.heap.size w w' := by
  have HQ := Lib.hid hq
  obtain ⟨t0, f0, hsg⟩ := hL
  obtain ⟨R, hR⟩ : ∃ R, R = fmAll.toArray := ⟨_, rfl⟩
  have HI := Lib.hid info_fmAll
  rw [← hR] at hsg HI
  have hlt : 0 < w.heap.size := (Array.getElem?_eq_some_iff.1 hsg).1
  have HR := Lib.hid hR
  obtain ⟨G, hG⟩ : ∃ G, G = w.heap.size := ⟨_, rfl⟩
  obtain ⟨w1, hw1⟩ : ∃ w1, w1 = w.alloc (.cells #[.int .u8 (q : Int), .slice a n c] 49) := ⟨_, rfl⟩
  have Z1 : Hid (Has w1 G [.int .u8 (q : Int), .slice a n c] 49) := Lib.hid (by rw [hw1, hG]; exact Has.new w _ _)
  have B1 : Hid (Below G w w1) := Lib.hid (by rw [hw1, hG]; exact (Below.refl _ _).alloc (Nat.le_refl _) _)
  have HSG : Hid (w1.heap[0]? = some (.cells R t0 f0)) := Lib.hid ((B1.out.block _ (by rw [hG]; exact hlt)).trans hsg)
  have HG := Lib.hid hG
  have HW1 := Lib.hid hw1
  clear hsg hR hlt hw1 hG hq
  go_enter Tryz.func42, Tryz.ntmps42
  go_upto_region 1 with fail
  rw [← HW1.out, ← HG.out]
  clear HW1
  go_wp2_with (refine wpList_load_row rfl 82 _ rfl 0 rfl t0 R f0 _ HSG.out Tryz.underlying82 rfl HI.out ?_)
  go_loopw [6] (fun ii wr => ∃ k : Nat, k ≤ 8 ∧ ii = .int .i64 k ∧ Hid (Has wr G [.int .u8 (q : Int), .slice a n c] 49) ∧ Hid (Below G w wr) ∧ Hid (∀ j, j < k → (formsF.getD j fmD).1 ≠ q)) (fun ii _ => 8 - (intOf ii).toNat)
  case atStart => exact ⟨0, Nat.zero_le _, rfl, Z1, B1, Lib.hid (fun j hj => by omega)⟩
  case round =>
    clear Z1 B1 HSG
    obtain ⟨k, hk, rfl, hz, hb, hno⟩ := hrel
    by_cases hlt : k < 8
    · have hki : (k : Int) < 8 := by omega
      obtain ⟨sg, hs⟩ : ∃ sg, sg = formsF.getD k fmD := ⟨_, rfl⟩
      obtain ⟨sb, hsb⟩ : ∃ sb : ByteArray, sb = ⟨sg.2.1.toArray⟩ := ⟨_, rfl⟩
      have hidx : ∀ w : World, (Instr.index 82 (.agg R) (.int .i64 (k : Int))).run Tryz.prog w = .ok (.agg #[.int .u8 (sg.1 : Int), .string sb, .int .i64 (sg.2.2 : Int)]) w := fun w => by
        rw [HR.out, idx_fm k hlt w, ← hs, hsb]; rfl
      obtain ⟨N, hN⟩ : ∃ N, N = wr.heap.size := ⟨_, rfl⟩
      obtain ⟨w2, hw2⟩ : ∃ w2, w2 = wr.alloc (.cells #[.int .u8 (sg.1 : Int), .string sb, .int .i64 (sg.2.2 : Int)] 81) := ⟨_, rfl⟩
      have hb2 : Below N wr w2 := by rw [hw2, hN]; exact (Below.refl _ _).alloc (Nat.le_refl _) _
      have X2 : Hid (Has w2 N [.int .u8 (sg.1 : Int), .string sb, .int .i64 (sg.2.2 : Int)] 81) := Lib.hid (by rw [hw2, hN]; exact Has.new wr _ _)
      have Z2 := Lib.hid (hz.out.below hb2 (by rw [hN]; exact hz.out.lt))
      have B2 : Hid (Below G w w2) := Lib.hid (hb.out.trans (hb2.mono (by rw [hN]; exact Nat.le_of_lt hz.out.lt)))
      have HNG : Hid (G < N) := Lib.hid (by rw [hN]; exact hz.out.lt)
      have HS := Lib.hid hs
      have HN2 := Lib.hid hN
      have HW2 := Lib.hid hw2
      have HSM : Hid (sg.2.2 ≤ 3 ∧ sg.1 ≤ 8 ∧ 1 ≤ sg.2.2) := Lib.hid (by rw [hs]; exact ⟨(fm_small k).1, (fm_small k).2, fm_pos k hlt⟩)
      have HK8 := Lib.hid hlt
      clear hs hN hw2 hb2 hz hb hsb
      go_upto_region 4 with fail
      clear hidx
      rw [← HW2.out, ← HN2.out]
      have y0 : w2.cell? ⟨N, 0, none⟩ = some (.int .u8 (sg.1 : Int)) := X2.out.cellAt (i := 0) rfl
      have z0 : w2.cell? ⟨G, 0, none⟩ = some (.int .u8 (q : Int)) := Z2.out.cellAt (i := 0) rfl
      clear HW2
      by_cases heq : sg.1 = q
      · have he : ((sg.1 : Int) == (q : Int)) = true := by rw [heq]; simp
        have HEQ := Lib.hid heq
        have HHIT : Hid (okF q n = (sg.2.2 == n)) := Lib.hid (by rw [HS.out]; exact ok_hit q n k HK8.out hno.out (by rw [← HS.out]; exact heq))
        clear heq hno
        have y2 : w2.cell? ⟨N, 2, none⟩ = some (.int .i64 (sg.2.2 : Int)) := X2.out.cellAt (i := 2) rfl
        have z1 : w2.cell? ⟨G, 1, none⟩ = some (.slice a n c) := Z2.out.cellAt (i := 1) rfl
        go_wp2_with fail
        refine bodyPost_ret (results_tmp rfl _ _ _) rfl ?_
        refine ⟨?_, by rw [← HG.out]; exact B2.out⟩
        rw [HHIT.out]
        show Ending.returned (.bool ((sg.2.2 : Int) == (n : Int))) = _
        have hb : ((sg.2.2 : Int) == (n : Int)) = (sg.2.2 == n) := by
          rw [Bool.eq_iff_iff, beq_iff_eq, beq_iff_eq]
          exact Int.ofNat_inj
        rw [hb]
      · have he : ((sg.1 : Int) == (q : Int)) = false := by rw [beq_eq_false_iff_ne]; intro h; exact heq (by omega)
        have HNO2 : Hid (∀ j, j < k + 1 → (formsF.getD j fmD).1 ≠ q) := Lib.hid (fun j hj => by
          by_cases hj2 : j < k
          · exact hno.out j hj2
          · obtain rfl : j = k := by omega
            rw [← HS.out]
            exact heq)
        clear heq hno
        go_wp2_with fail
        go_roundw
        case rel => exact ⟨k + 1, HK8.out, by go_num, Lib.hid (Z2.out), Lib.hid (B2.out), HNO2⟩
        case measure => have := HK8.out; simp [intOf]; omega
    · obtain rfl : k = 8 := by omega
      have hki : ¬ (8 : Int) < 8 := by omega
      have HM := Lib.hid (ok_no q n hno.out)
      have HB := Lib.hid hb.out
      clear hno hb hz
      go_wp2_with fail
      refine bodyPost_ret (results_tmp rfl _ _ _) rfl ?_
      exact ⟨by rw [HM.out]; rfl, by rw [← HG.out]; exact HB.out⟩
end Go.Proofs.YtlccdenafnekjaaGreatDoor
namespace Go.Proofs.YtlccdenafnekjaaGreatDoor
open Go.RowKit
set_option linter.unusedVariables false

/-- The first k names rise. -/
def risingTo (l : List ByteArray) (k : Nat) : Prop := ∀ i, i < k → tName (l.getD i ⟨#[]⟩).data.toList = true ∧ (1 ≤ i → leS (l.getD i ⟨#[]⟩) (l.getD (i - 1) ⟨#[]⟩) = false)

theorem risingTo_step {l : List ByteArray} {k : Nat} (h : risingTo l k) (h1 : tName (l.getD k ⟨#[]⟩).data.toList = true) (h2 : 1 ≤ k → leS (l.getD k ⟨#[]⟩) (l.getD (k - 1) ⟨#[]⟩) = false) : risingTo l (k + 1) := by
  intro i hi
  by_cases e : i = k
  · subst e; exact ⟨h1, h2⟩
  · exact h i (by omega)

set_option maxRecDepth 100000 in
set_option maxHeartbeats 8000000 in
theorem rising_any (a : Option Addr) (n cap : Nat) (l : List ByteArray) (w : World) (hl : IsS w a n cap l) :
    Calls Tryz.prog 147 #[.slice a n cap] w fun e w' => e = .returned (.bool (risingT l)) ∧ w = w' := by
  have HL := Lib.hid hl
  clear hl
  go_enter Tryz.func147, Tryz.ntmps147
  go_wp2_with fail
  go_loopw [7] (fun ii wr => ∃ k : Nat, k ≤ n ∧ ii = .int .i64 k ∧ risingTo l k ∧ w = wr) (fun ii _ => n - (intOf ii).toNat)
  case atStart => exact ⟨0, Nat.zero_le _, rfl, fun i hi => by omega, rfl⟩
  case round =>
    obtain ⟨k, hk, rfl, hok, rfl⟩ := hrel
    by_cases hlt : k < n
    · rcases HL.out.at_ with h0 | ⟨b, off, rfl, hb, hc⟩
      · omega
      have hck := hc k hlt
      have hkl : Hid (k < l.length) := Lib.hid (by rw [HL.out.length]; exact hlt)
      obtain ⟨s, hs⟩ : ∃ s, s = l.getD k ⟨#[]⟩ := ⟨_, rfl⟩
      rw [← hs] at hck
      have HS := Lib.hid hs
      have hki : (k : Int) < (n : Int) := by omega
      have HOK := Lib.hid hok
      clear hs hok
      cases hn : tName s.data.toList
      · have HN := Lib.hid hn
        have HR : Hid (risingT l = false) := Lib.hid (risingT_name hkl.out (by rw [← HS.out]; exact HN.out))
        clear hn hc
        go_wp2_with fail
        refine (name_any _ _).mono ?_
        rintro e w' ⟨rfl, rfl⟩
        rw [HN.out]
        go_wp2_with fail
        go_ret
        exact ⟨by rw [HR.out]; rfl, rfl⟩
      · have HN := Lib.hid hn
        clear hn
        rcases Nat.eq_zero_or_pos k with h0 | hpos
        · have hpi : ¬ (0 : Int) < (k : Int) := by omega
          have HST := Lib.hid (risingTo_step HOK.out (by rw [← HS.out]; exact HN.out) (fun h => by omega))
          clear hc h0
          go_wp2_with fail
          refine (name_any _ _).mono ?_
          rintro e w' ⟨rfl, rfl⟩
          rw [HN.out]
          go_wp2_with fail
          go_roundw
          case rel => exact ⟨k + 1, by omega, by go_num, HST.out, by trivial⟩
          case measure => simp [intOf]; omega
        · have hcp := hc (k - 1) (by omega)
          obtain ⟨p, hp⟩ : ∃ p, p = l.getD (k - 1) ⟨#[]⟩ := ⟨_, rfl⟩
          rw [← hp] at hcp
          have HP := Lib.hid hp
          obtain ⟨j, rfl⟩ : ∃ j, k = j + 1 := ⟨k - 1, by omega⟩
          have hroom := HL.out.room
          unfold maxLen at hroom
          have hwr : wrap64 (((j + 1 : Nat) : Int) - 1) = (j : Int) := by
            rw [show ((j + 1 : Nat) : Int) - 1 = (j : Int) by omega]
            unfold wrap64; omega
          rw [Nat.add_sub_cancel] at hcp
          have hpi : (0 : Int) < ((j + 1 : Nat) : Int) := by omega
          clear hc hp
          cases hle : leS s p
          · have hl1 : Op.bytesLess s.toList p.toList = false := by
              unfold leS at hle; rw [Bool.or_eq_false_iff] at hle; exact hle.1
            have hl2 : (s.toList == p.toList) = false := by
              unfold leS at hle; rw [Bool.or_eq_false_iff] at hle; exact hle.2
            have HST := Lib.hid (risingTo_step HOK.out (by rw [← HS.out]; exact HN.out) (fun _ => by rw [← HS.out, ← HP.out]; exact hle))
            clear hle
            go_wp2_with fail
            refine (name_any _ _).mono ?_
            rintro e w' ⟨rfl, rfl⟩
            rw [HN.out]
            go_wp2_with fail
            go_roundw
            case rel => exact ⟨j + 1 + 1, by omega, by go_num, HST.out, by trivial⟩
            case measure => simp [intOf]; omega
          · have HR : Hid (risingT l = false) := Lib.hid (risingT_less hkl.out (by omega) (by rw [← HS.out, ← HP.out]; exact hle))
            have hl1 : (Op.bytesLess s.toList p.toList || s.toList == p.toList) = true := hle
            cases hb1 : Op.bytesLess s.toList p.toList
            · have hb2 : (s.toList == p.toList) = true := by rw [hb1, Bool.false_or] at hl1; exact hl1
              clear hle hl1
              go_wp2_with fail
              refine (name_any _ _).mono ?_
              rintro e w' ⟨rfl, rfl⟩
              rw [HN.out]
              go_wp2_with fail
              go_ret
              exact ⟨by rw [HR.out]; rfl, rfl⟩
            · clear hle hl1
              go_wp2_with fail
              refine (name_any _ _).mono ?_
              rintro e w' ⟨rfl, rfl⟩
              rw [HN.out]
              go_wp2_with fail
              go_ret
              exact ⟨by rw [HR.out]; rfl, rfl⟩
    · obtain rfl : k = n := by omega
      have HR : Hid (risingT l = true) := Lib.hid (risingT_good (by rw [HL.out.length]; exact hok))
      clear hok
      go_wp2_with fail
      go_ret
      exact ⟨by rw [HR.out]; rfl, rfl⟩

end Go.Proofs.YtlccdenafnekjaaGreatDoor
namespace Go.Proofs.YtlccdenafnekjaaGreatDoor
open Go.RowKit
set_option linter.unusedVariables false

def targetB (d : List UInt8) : Bool := decide (1 ≤ d.length) && decide (d.length ≤ 400) && !(d.contains 0)

theorem bytesOf_map (d : List UInt8) : Lib.bytesOf (d.map fun b => (b.toNat : Int)) = d := by
  unfold Lib.bytesOf
  rw [List.map_map]
  conv => rhs; rw [← List.map_id d]
  refine List.map_congr_left fun b _ => ?_
  simp

set_option maxRecDepth 100000 in
set_option maxHeartbeats 4000000 in
theorem target_any (a : Option Addr) (n cap : Nat) (d : List UInt8) (w : World) (hd : IsB w a n cap d) :
    Calls Tryz.prog 148 #[.slice a n cap] w fun e w' => e = .returned (.bool (targetB d)) ∧ w = w' := by
  have hl := hd.length
  rcases hd.at_ with h0 | ⟨b, off, rfl, hb, hc⟩
  · subst h0
    have : targetB d = false := by unfold targetB; rw [hl]; rfl
    rw [this]
    clear hd hl this
    go_enter Tryz.func148, Tryz.ntmps148
    go_wp2_with fail
    go_ret
    exact ⟨rfl, rfl⟩
  · by_cases h1 : 1 ≤ n
    · have i1 : (0 : Int) < (n : Int) := by omega
      by_cases h4 : n ≤ 400
      · have i4 : (n : Int) ≤ 400 := by omega
        have K := Tryz.bytes_IndexByte b off n cap (d.map fun b => (b.toNat : Int)) 0 w (by simpa using hl) (fun i hi => by rw [hc i hi]; simp [List.getD, show i < d.length by omega])
        rw [bytesOf_map] at K
        have hneg := index_neg 0 d
        have ht : targetB d = !(d.contains 0) := by unfold targetB; rw [hl, decide_eq_true h1, decide_eq_true h4]; simp
        rw [ht]
        have HK := Lib.hid K
        have HNEG := Lib.hid hneg
        clear hd hl hc K ht hneg
        go_enter Tryz.func148, Tryz.ntmps148
        go_wp2_with fail
        refine HK.out.mono ?_
        rintro e w' ⟨rfl, rfl⟩
        go_wp2_with fail
        go_ret
        refine ⟨?_, rfl⟩
        rw [← HNEG.out]; rfl
      · have i4 : ¬ (n : Int) ≤ 400 := by omega
        have ht : targetB d = false := by unfold targetB; rw [hl, decide_eq_false h4]; simp
        rw [ht]
        clear hd hl hc ht
        go_enter Tryz.func148, Tryz.ntmps148
        go_wp2_with fail
        go_ret
        exact ⟨rfl, rfl⟩
    · obtain rfl : n = 0 := by omega
      have : targetB d = false := by unfold targetB; rw [hl]; rfl
      rw [this]
      clear hd hl this hc h1
      go_enter Tryz.func148, Tryz.ntmps148
      go_wp2_with fail
      go_ret
      exact ⟨rfl, rfl⟩

theorem formedT_dir (x : Bool) (d : List UInt8) (ns : List ByteArray) (ks : List T) : formedT (.mk 3 x d ns ks) = (!x && d.isEmpty && decide (ns.length = ks.length) && risingT ns) := by unfold formedT; dsimp only; rw [if_pos rfl]
theorem formedT_other {k : UInt8} (hk : k ≠ 3) (x : Bool) (d : List UInt8) (ns : List ByteArray) (ks : List T) : formedT (.mk k x d ns ks) = (ns.isEmpty && ks.isEmpty && (k == 1 || (k == 2 && !x && targetB d))) := by
  unfold formedT targetB; dsimp only; rw [if_neg hk]; simp only [Bool.and_assoc]

theorem empty_len {α : Type} (l : List α) : l.isEmpty = decide (l.length = 0) := by cases l <;> simp

set_option maxRecDepth 100000 in
set_option maxHeartbeats 20000000 in
theorem formed_any (n : Nat) (cs : List Value) (t : T) (w : World) (ht : IsT w n cs t) :
    Calls Tryz.prog 138 #[.agg cs.toArray] w fun e w' => e = .returned (.bool (formedT t)) ∧ Below w.heap.size w w' := by
  cases n with
  | zero => exact absurd ht (by simp [IsT])
  | succ n =>
  obtain ⟨k, x, d, ns, ks⟩ := t
  obtain ⟨ad, nd, cd, an, nn, cn, ak, nk, ck, rfl, hB, hS, hK⟩ := ht
  have b1 : ∀ u : Array Value, Below w.heap.size w (w.alloc (.cells u 37)) := fun u => (Below.refl _ _).alloc (Nat.le_refl _) _
  have HB1 := Lib.hid b1
  have hnot : ∀ (x : Bool) (w : World), (Op.unary .not (.bool x)).run Tryz.prog w = .ok (.bool (!x)) w := fun _ _ => rfl
  have ld := hB.length
  have ln := hS.length
  have lk := hK.length
  clear b1
  by_cases h3 : k = 3
  · subst h3
    rw [formedT_dir, empty_len, ld, ln, lk]
    have HS := Lib.hid hS
    clear hB hS hK ld ln lk
    cases x
    · by_cases hd : nd = 0
      · subst hd
        by_cases hnk : nn = nk
        · subst hnk
          go_enter Tryz.func138, Tryz.ntmps138
          go_wp2_with fail
          have K := rising_any an nn cn ns _ (HS.out.later (HB1.out #[.int .u8 3, .bool false, .slice ad 0 cd, .slice an nn cn, .slice ak nn ck]))
          refine K.mono ?_
          rintro e w' ⟨rfl, rfl⟩
          go_wp2_with fail
          go_ret
          refine ⟨?_, HB1.out _⟩
          simp
        · have hne : ((nn : Int) == (nk : Int)) = false := by rw [beq_eq_false_iff_ne]; omega
          have hne' : ¬ (nn : Int) = (nk : Int) := by omega
          have hr : Hid (decide (nn = nk) = false) := Lib.hid (decide_eq_false hnk)
          clear hnk
          go_enter Tryz.func138, Tryz.ntmps138
          go_wp2_with fail
          go_ret
          exact ⟨by rw [hr.out]; rfl, HB1.out _⟩
      · have hne : ((nd : Int) == 0) = false := by rw [beq_eq_false_iff_ne]; omega
        have hne' : ¬ (nd : Int) = 0 := by omega
        have hr : Hid (decide (nd = 0) = false) := Lib.hid (decide_eq_false hd)
        clear hd
        go_enter Tryz.func138, Tryz.ntmps138
        go_wp2_with fail
        go_ret
        exact ⟨by rw [hr.out]; rfl, HB1.out _⟩
    · go_enter Tryz.func138, Tryz.ntmps138
      go_wp2_with fail
      go_ret
      exact ⟨rfl, HB1.out _⟩
  · rw [formedT_other h3, empty_len, empty_len, ln, lk]
    obtain ⟨z, hz⟩ : ∃ z : Int, z = (k.toNat : Int) := ⟨_, rfl⟩
    rw [← hz]
    have z3 : (z == 3) = false := by
      have : k.toNat ≠ 3 := fun h => h3 (UInt8.toNat_inj.1 h)
      rw [beq_eq_false_iff_ne]; omega
    have z3' : ¬ z = 3 := by simpa using z3
    have HBB := Lib.hid hB
    clear hB hS hK ld ln lk h3
    by_cases hn : nn = 0
    · subst hn
      by_cases hk0 : nk = 0
      · subst hk0
        by_cases h1 : k = 1
        · subst h1
          have hz1 : z = 1 := hz
          subst hz1
          clear hz z3 z3'
          go_enter Tryz.func138, Tryz.ntmps138
          go_wp2_with fail
          go_ret
          exact ⟨rfl, HB1.out _⟩
        · have hk1 : Hid ((k == 1) = false) := Lib.hid (by simpa using h1)
          have z1 : (z == 1) = false := by
            have : k.toNat ≠ 1 := fun h => h1 (UInt8.toNat_inj.1 h)
            rw [beq_eq_false_iff_ne]; omega
          have z1' : ¬ z = 1 := by simpa using z1
          by_cases h2 : k = 2
          · subst h2
            have hz2 : z = 2 := hz
            subst hz2
            clear hz z3 z3' z1 z1' h1
            cases x
            · go_enter Tryz.func138, Tryz.ntmps138
              go_wp2_with fail
              have K := target_any ad nd cd d _ (HBB.out.later (HB1.out #[.int .u8 2, .bool false, .slice ad nd cd, .slice an 0 cn, .slice ak 0 ck]))
              refine K.mono ?_
              rintro e w' ⟨rfl, rfl⟩
              go_wp2_with fail
              go_ret
              exact ⟨by simp, HB1.out _⟩
            · go_enter Tryz.func138, Tryz.ntmps138
              go_wp2_with fail
              go_ret
              exact ⟨rfl, HB1.out _⟩
          · have hk2 : Hid ((k == 2) = false) := Lib.hid (by simpa using h2)
            have z2 : (z == 2) = false := by
              have : k.toNat ≠ 2 := fun h => h2 (UInt8.toNat_inj.1 h)
              rw [beq_eq_false_iff_ne]; omega
            have z2' : ¬ z = 2 := by simpa using z2
            clear hz h1 h2
            go_enter Tryz.func138, Tryz.ntmps138
            go_wp2_with fail
            go_ret
            exact ⟨by rw [hk1.out, hk2.out]; rfl, HB1.out _⟩
      · have hp : (0 : Int) < (nk : Int) := by omega
        have hr : Hid (decide (nk = 0) = false) := Lib.hid (decide_eq_false hk0)
        clear hz hk0
        go_enter Tryz.func138, Tryz.ntmps138
        go_wp2_with fail
        go_ret
        exact ⟨by rw [hr.out]; rfl, HB1.out _⟩
    · have hp : (0 : Int) < (nn : Int) := by omega
      have hr : Hid (decide (nn = 0) = false) := Lib.hid (decide_eq_false hn)
      clear hz hn
      go_enter Tryz.func138, Tryz.ntmps138
      go_wp2_with fail
      go_ret
      exact ⟨by rw [hr.out]; rfl, HB1.out _⟩

end Go.Proofs.YtlccdenafnekjaaGreatDoor
namespace Go.Proofs.YtlccdenafnekjaaGreatDoor
open Go.RowKit
set_option linter.unusedVariables false

/-- Behind counting a tree. -/
structure Counted (w0 : World) (h : Nat) (w : World) (r : Option (Nat × Nat)) (e : Ending) (w' : World) : Prop where
  some_ : ∃ t' b' : Nat, Has w' h [.int .i64 (t' : Int), .int .i64 (b' : Int)] 177 ∧ (∀ p, r = some p → p = (t', b'))
  below : Below w0.heap.size w0 w'
  size : w.heap.size ≤ w'.heap.size
  ret : e = .returned (.bool r.isSome)

theorem takeL_step {ks : List T} {i D n b t' b' : Nat} (h : i < ks.length) (hp : takeL (ks.take i) D n b = some (t', b')) : takeL (ks.take (i + 1)) D n b = takeT (ks.getD i default) D t' b' := by
  rw [List.take_succ_eq_append_getElem h, takeL_append, hp, List.getD_eq_getElem?_getD, List.getElem?_eq_getElem h]
  exact takeL_one _ _ _ _

theorem takeL_none {ks : List T} {i D n b : Nat} (hn : takeL (ks.take i) D n b = none) : takeL ks D n b = none := by
  rw [← List.take_append_drop i ks, takeL_append, hn]; rfl

/-- The cells of a tree are one each. -/
theorem isT_one {w : World} {n : Nat} {cs : List Value} {t : T} (h : IsT w n cs t) : cs.toArray.all (·.oneCell') = true := by
  cases n with
  | zero => exact absurd h (by simp [IsT])
  | succ n =>
    obtain ⟨k, x, d, ns, ks⟩ := t
    obtain ⟨ad, nd, cd, an, nn, cn, ak, nk, ck, rfl, _⟩ := h
    refine all_oneCell_toArray ?_
    intro v hv
    simp only [List.mem_cons, List.not_mem_nil, or_false] at hv
    rcases hv with rfl | rfl | rfl | rfl | rfl <;> rfl

set_option maxRecDepth 100000 in
set_option maxHeartbeats 20000000 in
theorem take_any (w0 : World) (h : Nat) (hh : w0.heap.size ≤ h) : ∀ (n : Nat) (cs : List Value) (t : T), IsT w0 n cs t → ∀ (w : World) (dep tc bc : Nat), Below w0.heap.size w0 w → Has w h [.int .i64 (tc : Int), .int .i64 (bc : Int)] 177 → tc ≤ 4096 → bc ≤ 65536 → dep ≤ 17 →
    Calls Tryz.prog 127 #[.pointer (some ⟨h, 0, none⟩), .agg cs.toArray, .int .i64 (dep : Int)] w fun e w' => Counted w0 h w (takeT t dep tc bc) e w'
  | 0, _, _, ht => absurd ht (by simp [IsT])
  | n + 1, cs, .mk k x d ns ks, ht => by
    intro w dep tc bc hbel hx htc hbc hdep
    have ht0 : Hid (IsT w0 (n + 1) cs (.mk k x d ns ks)) := Lib.hid ht
    obtain ⟨ad, nd, cd, an, nn, cn, ak, nk, ck, rfl, hB, hS, hK⟩ := ht
    have hlt := hx.lt
    have HX := Lib.hid hx
    have HBEL := Lib.hid hbel
    have HLD := Lib.hid hB.length
    have hmost := hB.most
    have HK := Lib.hid hK
    have hbs := hbel.size
    clear hx hbel hB hS hK
    go_enter Tryz.func127, Tryz.ntmps127
    go_upto_region 1 with fail
    obtain ⟨w1, hw1⟩ : ∃ w1, w1 = w.alloc (.cells #[.int .u8 (k.toNat : Int), .bool x, .slice ad nd cd, .slice an nn cn, .slice ak nk ck] 37) := ⟨_, rfl⟩
    have x1 : Has w1 h [.int .i64 (tc : Int), .int .i64 (bc : Int)] 177 := by rw [hw1]; exact HX.out.alloc _
    have g1 : Has w1 w.heap.size [.int .u8 (k.toNat : Int), .bool x, .slice ad nd cd, .slice an nn cn, .slice ak nk ck] 37 := by rw [hw1]; exact Has.new w _ _
    have b1 : Below w0.heap.size w0 w1 := by rw [hw1]; exact HBEL.out.alloc hbs _
    have s1 : w1.heap.size = w.heap.size + 1 := by rw [hw1]; simp
    rw [← hw1]
    obtain ⟨g, hg⟩ : ∃ g, g = w.heap.size := ⟨_, rfl⟩
    rw [← hg] at g1 s1 hlt ⊢
    have HG := Lib.hid hg
    clear hg
    have cd2 := g1.cellAt (i := 2) rfl
    have ch0 := x1.cellAt (i := 0) rfl
    have ch1 := x1.cellAt (i := 1) rfl
    have f0 := x1.frozen 0
    have f1 := x1.frozen 1
    clear hw1
    go_upto_region 2 with fail
    obtain ⟨w2, hw2⟩ : ∃ w2, w2 = w1.setCell ⟨h, 0, none⟩ (.int .i64 ((tc : Int) + 1)) := ⟨_, rfl⟩
    have x2 : Has w2 h [.int .i64 ((tc : Int) + 1), .int .i64 (bc : Int)] 177 := by rw [hw2]; exact x1.set 0 _
    have g2 : Has w2 g [.int .u8 (k.toNat : Int), .bool x, .slice ad nd cd, .slice an nn cn, .slice ak nk ck] 37 := by rw [hw2]; exact g1.setOther (a := ⟨h, 0, none⟩) (by show g ≠ h; omega) _
    have b2 : Below w0.heap.size w0 w2 := by rw [hw2]; exact b1.setCell (p := ⟨h, 0, none⟩) hh _
    have s2 : w2.heap.size = g + 1 := by rw [hw2, ← s1]; simp [World.setCell]
    rw [← hw2]
    have X2 := Lib.hid x2
    have G2 := Lib.hid g2
    have B2 := Lib.hid b2
    clear ch0 ch1 f0 f1 cd2 x1 g1 b1 hw2
    have cd2 := g2.cellAt (i := 2) rfl
    have ch1 := x2.cellAt (i := 1) rfl
    have f1 := x2.frozen 1
    clear x2 g2 b2
    go_region
    obtain ⟨w3, hw3⟩ : ∃ w3, w3 = (w2.setCell ⟨h, 1, none⟩ (.int .i64 ((bc : Int) + (nd : Int)))).drew := ⟨_, rfl⟩
    have x3 : Has w3 h [.int .i64 ((tc : Int) + 1), .int .i64 ((bc : Int) + (nd : Int))] 177 := by rw [hw3]; exact (X2.out.set 1 _).drew
    have g3 : Has w3 g [.int .u8 (k.toNat : Int), .bool x, .slice ad nd cd, .slice an nn cn, .slice ak nk ck] 37 := by rw [hw3]; exact (G2.out.setOther (a := ⟨h, 1, none⟩) (by show g ≠ h; omega) _).drew
    have b3 : Below w0.heap.size w0 w3 := by rw [hw3]; exact (B2.out.setCell (p := ⟨h, 1, none⟩) hh _).drew
    have s3 : w3.heap.size = g + 1 := by rw [hw3, ← s2]; simp [World.setCell]
    rw [← hw3]
    have X3 := Lib.hid x3
    have G3 := Lib.hid g3
    have B3 := Lib.hid b3
    have hgw : w.heap.size = g := HG.out.symm
    clear hw3 cd2 ch1 f1 X2 G2 B2
    have ch0 := x3.cellAt (i := 0) rfl
    have ch1 := x3.cellAt (i := 1) rfl
    have cg0 := g3.cellAt (i := 0) rfl
    have cg1 := g3.cellAt (i := 1) rfl
    have cg2 := g3.cellAt (i := 2) rfl
    have cg3 := g3.cellAt (i := 3) rfl
    have cg4 := g3.cellAt (i := 4) rfl
    clear x3 g3 b3
    by_cases hd16 : dep ≤ 16
    · have q1 : ¬ (16 : Int) < (dep : Int) := by omega
      by_cases ht1 : tc + 1 ≤ 4096
      · have q2 : ¬ (4096 : Int) < (tc : Int) + 1 := by omega
        by_cases hb1 : bc + nd ≤ 65536
        · have q3 : ¬ (65536 : Int) < (bc : Int) + (nd : Int) := by omega
          have I3 : Hid (IsT w3 (n + 1) [.int .u8 (k.toNat : Int), .bool x, .slice ad nd cd, .slice an nn cn, .slice ak nk ck] (.mk k x d ns ks)) := Lib.hid (IsT.later B3.out _ _ _ ht0.out)
          have KF := Lib.hid (formed_any (n + 1) _ _ w3 I3.out)
          clear hgw
          go_wp2_with fail
          refine KF.out.mono ?_
          rintro e w4 ⟨rfl, b4⟩
          have X4 := Lib.hid (X3.out.below b4 X3.out.lt)
          have G4 := Lib.hid (G3.out.below b4 G3.out.lt)
          have B4 := Lib.hid (B3.out.trans (b4.mono B3.out.size))
          have s4 := b4.size
          clear b4 KF I3 ch0 ch1 cg0 cg1 cg2 cg3 cg4
          cases hf : formedT (.mk k x d ns ks)
          · have HR : Hid (takeT (.mk k x d ns ks) dep tc bc = none) := Lib.hid (by rw [takeT_mk, if_neg]; rintro ⟨h1, h2, h3, h4⟩; rw [hf] at h4; cases h4)
            clear hf
            go_wp2_with fail
            go_ret
            refine ⟨⟨tc + 1, bc + nd, by have := X4.out; simpa using this, fun p hp => by rw [HR.out] at hp; cases hp⟩, B4.out, by rw [← HG.out]; omega, by rw [HR.out]; rfl⟩
          · have HR : Hid (takeT (.mk k x d ns ks) dep tc bc = takeL ks (dep + 1) (tc + 1) (bc + nd)) := Lib.hid (by rw [takeT_mk, HLD.out, if_pos ⟨hd16, ht1, hb1, hf⟩])
            have cg4 := G4.out.cellAt (i := 4) rfl
            clear hf
            go_wp2_with fail
            have info5 : Hid ((Tryz.prog.info? 37).map (·.size) = some 5) := Lib.hid (by kernel_rfl)
            go_loopw [50] (fun ii wr => ∃ (i t' b' : Nat), i ≤ nk ∧ ii = .int .i64 i ∧ takeL (ks.take i) (dep + 1) (tc + 1) (bc + nd) = some (t', b') ∧ t' ≤ 4096 ∧ b' ≤ 65536 ∧ Has wr h [.int .i64 (t' : Int), .int .i64 (b' : Int)] 177 ∧ Below w0.heap.size w0 wr ∧ g + 1 ≤ wr.heap.size) (fun ii _ => nk - (intOf ii).toNat)
            case atStart => exact ⟨0, tc + 1, bc + nd, Nat.zero_le _, rfl, by simp [takeL], ht1, hb1, by have := X4.out; simpa using this, B4.out, by omega⟩
            case round =>
              clear X4 G4 B4
              obtain ⟨i, t', b', hi, rfl, hpre, ht', hb', hx, hbel, hsz⟩ := hrel
              by_cases hlt : i < nk
              · rcases HK.out.at_ with h0 | ⟨b, off, rfl, hb, hc⟩
                · omega
                obtain ⟨c0, c1, c2, c3, c4, hR, e0, e1, e2, e3, e4⟩ := hc i hlt
                have hkl : i < ks.length := by rw [HK.out.length]; exact hlt
                have HPRE := Lib.hid hpre
                have HSTEP := Lib.hid (takeL_step hkl hpre)
                have HRK := Lib.hid hR
                have hone := Lib.hid (isT_one hR)
                have hrange : wr.rangeAt b (off + i * 5) [c0, c1, c2, c3, c4] := fun j v hv => by
                  rw [Nat.add_assoc]
                  match j, hv with
                  | 0, hv => cases hv; exact (hbel.cell (p := ⟨b, off + (i * 5 + 0), none⟩) hb).trans e0
                  | 1, hv => cases hv; exact (hbel.cell (p := ⟨b, off + (i * 5 + 1), none⟩) hb).trans e1
                  | 2, hv => cases hv; exact (hbel.cell (p := ⟨b, off + (i * 5 + 2), none⟩) hb).trans e2
                  | 3, hv => cases hv; exact (hbel.cell (p := ⟨b, off + (i * 5 + 3), none⟩) hb).trans e3
                  | 4, hv => cases hv; exact (hbel.cell (p := ⟨b, off + (i * 5 + 4), none⟩) hb).trans e4
                  | j + 5, hv => simp at hv
                have HRANGE := Lib.hid hrange
                have HX' := Lib.hid hx
                have HBE := Lib.hid hbel
                have hki : (i : Int) < (nk : Int) := by omega
                have hroom := HK.out.room
                unfold maxLen at hroom
                have hni : (i : Int) + 1 ≤ 9223372036854775807 := by omega
                have hb5 := hbel.size
                obtain ⟨L, hL⟩ : ∃ L, L = [c0, c1, c2, c3, c4] := ⟨_, rfl⟩
                have HLL := Lib.hid hL
                rw [← hL] at HRANGE HRK hone
                have hll : Hid (L.length = 5) := Lib.hid (by rw [hL]; rfl)
                have hA : Hid ((#[.int .u8 0, .bool false, .slice none 0 0, .slice none 0 0, .slice none 0 0] : Array Value).size = L.toArray.size) := Lib.hid (by have := hll.out; simp [this])
                have hI : Hid ((Tryz.prog.info? 37).map (·.size) = some L.toArray.size) := Lib.hid (by rw [info5.out, List.size_toArray, hll.out])
                clear hpre hR hx hbel hc e0 e1 e2 e3 e4 hrange hL
                go_wp2_with (first
                  | (refine wpList_load_mid rfl 37 _ rfl b (off + i * 5) rfl L _ HRANGE.out Tryz.underlying37 rfl (by rw [info5.out, hll.out]) ?_)
                  | (refine wpList_store_row rfl 37 _ _ rfl wr.heap.size L.toArray rfl rfl 37 _ (heap_alloc_new wr _) hI.out hA.out hone.out ?_)
                  | (refine wpList_load_row rfl 37 _ rfl wr.heap.size rfl 37 L.toArray (0, 0) _ (setRow_heap _ _ _ _ _ _ (heap_alloc_new wr _)) Tryz.underlying37 rfl hI.out ?_))
                obtain ⟨w5, hw5⟩ : ∃ w5, w5 = (wr.alloc (.cells #[.int .u8 0, .bool false, .slice none 0 0, .slice none 0 0, .slice none 0 0] 37)).setRow wr.heap.size L.toArray := ⟨_, rfl⟩
                have x5 : Has w5 h [.int .i64 (t' : Int), .int .i64 (b' : Int)] 177 := by
                  rw [hw5]; exact (HX'.out.alloc _).rowOther (by have := HX'.out.lt; omega) _
                have b5 : Below w0.heap.size w0 w5 := by rw [hw5]; exact below_setRow (HBE.out.alloc hb5 _) hb5 _
                have s5 : w5.heap.size = wr.heap.size + 1 := by rw [hw5]; simp
                rw [← hw5]
                have K5 := take_any w0 h hh n L (ks.getD i default) HRK.out w5 (dep + 1) t' b' b5 x5 ht' hb' (by omega)
                rw [show ((dep + 1 : Nat) : Int) = (dep : Int) + 1 from by omega] at K5
                have HK5 := Lib.hid K5
                clear hw5 x5 b5 K5
                refine HK5.out.mono ?_
                rintro e w6 ⟨⟨t6, b6, x6, hr6⟩, bel6, s6, rfl⟩
                have S6 : Hid (g + 1 ≤ w6.heap.size) := Lib.hid (by omega)
                have HLT := Lib.hid hlt
                cases hk : takeT (ks.getD i default) (dep + 1) t' b' with
                | none =>
                  have HRR : Hid (takeT (.mk k x d ns ks) dep tc bc = none) := Lib.hid (by rw [HR.out]; exact takeL_none (i := i + 1) (by rw [HSTEP.out]; exact hk))
                  have X6 := Lib.hid x6
                  have B6 := Lib.hid bel6
                  clear hk hr6 x6 bel6 HK5
                  simp only [Option.isSome_none]
                  go_wp2_with fail
                  go_ret
                  exact ⟨⟨t6, b6, X6.out, fun p hp => by rw [HRR.out] at hp; cases hp⟩, B6.out, by rw [← HG.out]; have := S6.out; omega, by rw [HRR.out]; rfl⟩
                | some q =>
                  have hq := hr6 q hk
                  have hle := takeT_le _ _ _ _ _ hk
                  have HN : Hid (takeL (ks.take (i + 1)) (dep + 1) (tc + 1) (bc + nd) = some (t6, b6)) := Lib.hid (by rw [HSTEP.out, hk, hq])
                  rw [hq] at hle
                  have X6 := Lib.hid x6
                  have B6 := Lib.hid bel6
                  clear hk hr6 x6 bel6 hq HK5
                  simp only [Option.isSome_some]
                  go_wp2_with fail
                  go_roundw
                  case rel => exact ⟨i + 1, t6, b6, by omega, by go_num, HN.out, hle.1, hle.2, X6.out, B6.out, S6.out⟩
                  case measure =>
                    have := HLT.out
                    simp only [intOf]; omega
              · obtain rfl : i = nk := by omega
                have HRR : Hid (takeT (.mk k x d ns ks) dep tc bc = some (t', b')) := Lib.hid (by
                  rw [HR.out, ← hpre, List.take_of_length_le (by rw [HK.out.length]; exact Nat.le_refl _)])
                have HX' := Lib.hid hx
                have HBE := Lib.hid hbel
                clear hpre hx hbel
                go_wp2_with fail
                go_ret
                exact ⟨⟨t', b', HX'.out, fun p hp => by rw [HRR.out] at hp; cases hp; rfl⟩, HBE.out, by rw [← HG.out]; omega, by rw [HRR.out]; rfl⟩
        · have q3 : (65536 : Int) < (bc : Int) + (nd : Int) := by omega
          have HR : Hid (takeT (.mk k x d ns ks) dep tc bc = none) := Lib.hid (by rw [takeT_mk, if_neg]; rintro ⟨h1, h2, h3, h4⟩; rw [HLD.out] at h3; omega)
          clear hb1
          go_wp2_with fail
          go_ret
          refine ⟨⟨tc + 1, bc + nd, by have := X3.out; simpa using this, fun p hp => by rw [HR.out] at hp; cases hp⟩, B3.out, by omega, by rw [HR.out]; rfl⟩
      · have q2 : (4096 : Int) < (tc : Int) + 1 := by omega
        have HR : Hid (takeT (.mk k x d ns ks) dep tc bc = none) := Lib.hid (by rw [takeT_mk, if_neg]; rintro ⟨h1, h2, h3, h4⟩; omega)
        clear ht1
        go_wp2_with fail
        go_ret
        refine ⟨⟨tc + 1, bc + nd, by have := X3.out; simpa using this, fun p hp => by rw [HR.out] at hp; cases hp⟩, B3.out, by omega, by rw [HR.out]; rfl⟩
    · have q1 : (16 : Int) < (dep : Int) := by omega
      have HR : Hid (takeT (.mk k x d ns ks) dep tc bc = none) := Lib.hid (by rw [takeT_mk, if_neg]; rintro ⟨h1, h2, h3, h4⟩; omega)
      clear hd16
      go_wp2_with fail
      go_ret
      refine ⟨⟨tc + 1, bc + nd, by have := X3.out; simpa using this, fun p hp => by rw [HR.out] at hp; cases hp⟩, B3.out, by omega, by rw [HR.out]; rfl⟩

end Go.Proofs.YtlccdenafnekjaaGreatDoor

namespace Go.Proofs.YtlccdenafnekjaaGreatDoor
open Go.RowKit Go.ChangeShapes Go.WideShapes
set_option linter.unusedVariables false

theorem isT_up {w : World} : ∀ (n : Nat) (cs : List Value) (t : T), IsT w n cs t → IsT w (n + 1) cs t
  | 0, _, _, h => False.elim h
  | n + 1, cs, .mk k x d ns ks, h => by
    obtain ⟨ad, nd, cd, an, nn, cn, ak, nk, ck, hcs, hB, hS, hK⟩ := h
    exact ⟨ad, nd, cd, an, nn, cn, ak, nk, ck, hcs, hB, hS, hK.mono (Below.refl _ _) (fun cs t => isT_up n cs t)⟩

theorem weights_all {H : Type} {P : Program} {e : TypeId} : ∀ (l : List (DataW H)) (i : Nat) (d : DataW H), l[i]? = some d → ∀ n ∈ d.weights P e, n ∈ DataW.weightsAll P e l
  | [], i, d, h, n, hn => by simp at h
  | d0 :: l, 0, d, h, n, hn => by
    simp only [List.getElem?_cons_zero, Option.some.injEq] at h
    subst h
    rw [DataW.weightsAll]
    exact List.mem_append_left _ hn
  | d0 :: l, i + 1, d, h, n, hn => by
    rw [DataW.weightsAll]
    exact List.mem_append_right _ (weights_all l i d (by simpa using h) n hn)

theorem byte_range {z : Int} (h : (Lit.int .u8 z).wf = true) : 0 ≤ z ∧ z ≤ 255 := by
  simp only [Lit.wf, Bool.and_eq_true, decide_eq_true_eq] at h
  have hmin : IntKind.u8.min = 0 := rfl
  have hmax : IntKind.u8.max = 255 := rfl
  omega

theorem byte_back {z : Int} (h : (Lit.int .u8 z).wf = true) : (((UInt8.ofNat z.toNat).toNat : Nat) : Int) = z := by
  have := byte_range h
  rw [UInt8.toNat_ofNat']
  omega

theorem five_list {α : Type} {l : List α} (h : l.length = 5) : ∃ a b c d e, l = [a, b, c, d, e] := by
  match l, h with
  | [a, b, c, d, e], _ => exact ⟨a, b, c, d, e, rfl⟩

/-- The names of a tree, its lists, and those of all in it, are no longer than memory. -/
inductive Small : T → Prop where
  | mk {k : UInt8} {x : Bool} {d : List UInt8} {ns : List ByteArray} {ks : List T} : (∀ i, i < ns.length → (ns.getD i ⟨#[]⟩).size ≤ 140737488355328) → (∀ i, i < ks.length → Small (ks.getD i default)) →
    d.length ≤ 140737488355328 ∧ ns.length * 16 ≤ 140737488355328 ∧ ks.length * 80 ≤ 140737488355328 → Small (.mk k x d ns ks)

section
variable {H : Type} {enc : TypeId × Value → H} {w : World} {base : Nat} {held : Bool}

theorem isB_of {fuel : Nat} {c : Value} {x : DataW H × List MemPlace} (h : DataW.trod enc Tryz.prog w base (fun _ => true) held fuel 33 [c] = some x)
    (hw : ∀ m ∈ x.1.weights Tryz.prog 33, m ≤ reachBytes) : ∃ a len cap l, c = .slice a len cap ∧ IsB w a len cap l := by
  rcases open_ints Tryz.underlying33 Tryz.underlying5 (by kernel_rfl) h with ⟨hc, _⟩ | ⟨y, len, cap, zs, hc, _, hl, hm, hz, hx, hcell, hwz⟩
  · simp at hc
    exact ⟨none, 0, 0, [], hc, rfl, .inl rfl, fun _ => ⟨rfl, rfl⟩, ⟨Nat.le_refl _, Nat.zero_le _⟩, Nat.zero_le _⟩
  · simp at hc
    have hz' : zs.length = cap := by simpa using hz
    have hb1 : Tryz.prog.bytesOf 5 = 1 := by kernel_rfl
    have hcap : cap ≤ reachBytes := by
      have := hw (((lits .u8 (zs.take len) : List (DataW H)).length + (lits .u8 (zs.drop len) : List (DataW H)).length) * Tryz.prog.bytesOf 5) (by rw [hx]; simp [DataW.weights, Tryz.underlying33])
      rw [hb1] at this
      simp [lits] at this
      omega
    refine ⟨some y, len, cap, (zs.take len).map (fun z => UInt8.ofNat z.toNat), hc, by simp; omega, ?_, (fun h => by cases h), ⟨hl, hm⟩, by unfold reachBytes at hcap; omega⟩
    rcases Nat.eq_zero_or_pos len with h0 | h0
    · exact .inl h0
    · right
      obtain ⟨b, off, spot⟩ := y
      have hc0 := hcell 0 (by omega)
      have hspot : spot = none := by simpa [Addr.add] using World.cell?_spot hc0
      subst hspot
      have hb := World.block_lt_of_cell? w _ hc0
      refine ⟨b, off, rfl, by simpa [Addr.add] using hb, fun i hi => ?_⟩
      have hci := hcell i (by omega)
      rw [Addr.add_mid] at hci
      have hz2 : zs.getD i 0 = zs[i]'(by omega) := by simp [List.getD, List.getElem?_eq_getElem (show i < zs.length by omega)]
      have hr := byte_back (hwz (zs[i]'(by omega)) (List.getElem_mem _))
      rw [hci, hz2]
      have e1 : ((zs.take len).map (fun z => UInt8.ofNat z.toNat)).getD i 0 = UInt8.ofNat (zs[i]'(by omega)).toNat := by
        simp [List.getD, hi, List.getElem?_eq_getElem (show i < zs.length by omega)]
      rw [e1, hr]

theorem isS_of {fuel : Nat} {c : Value} {x : DataW H × List MemPlace} (h : DataW.trod enc Tryz.prog w base (fun _ => true) held fuel 34 [c] = some x)
    (hw : ∀ m ∈ x.1.weights Tryz.prog 34, m ≤ reachBytes) : ∃ a len cap l, c = .slice a len cap ∧ IsS w a len cap l ∧ (∀ i, i < l.length → (l.getD i ⟨#[]⟩).size ≤ 140737488355328) ∧ l.length * 16 ≤ 140737488355328 := by
  rcases Deep.open_slice1 Tryz.underlying34 (by kernel_rfl) h with ⟨hc, _⟩ | ⟨y, len, cap, m, n, V, D, Pl, hc, _, hl, hm, hmm, hxx, hx⟩
  · simp at hc
    exact ⟨none, 0, 0, [], hc, ⟨rfl, .inl rfl, fun _ => ⟨rfl, rfl⟩, ⟨Nat.le_refl _, Nat.zero_le _⟩⟩, fun i hi => by simp at hi, by simp⟩
  · simp at hc
    have hb16 : Tryz.prog.bytesOf 9 = 16 := by kernel_rfl
    have h16 : len * 16 ≤ 140737488355328 := by
      have := hw ((len + (m - len)) * Tryz.prog.bytesOf 9) (by rw [hxx]; simp [DataW.weights, Tryz.underlying34])
      rw [hb16] at this
      unfold reachBytes at this
      omega
    have hle : len ≤ m := by rw [hmm]; split <;> omega
    have hall : ∀ i, i < len → ∃ s : ByteArray, V i = .string s ∧ s.size ≤ 140737488355328 := fun i hi => by
      obtain ⟨s, hs, hd, _⟩ := DataW.trod_string Tryz.underlying9 (hx i (by omega)).2
      have hD : D i = .lit (.string s.data.toList) := congrArg (·.1) hd
      have := hw s.data.toList.length (by
        rw [hxx]
        simp only [DataW.weights, Tryz.underlying34, List.mem_cons, List.mem_append]
        refine .inr (.inl (weights_all _ i (D i) (by rw [List.getElem?_map, List.getElem?_range hi]; rfl) _ ?_))
        rw [hD]; simp [DataW.weights])
      unfold reachBytes at this
      refine ⟨s, by simpa using hs, ?_⟩
      have e : s.data.toList.length = s.size := by rw [Array.length_toList]; rfl
      omega
    obtain ⟨f, hf⟩ := Deep.choose_lt hall
    refine ⟨some y, len, cap, (List.range len).map f, hc, ⟨by simp, ?_, (fun h => by cases h), ⟨hl, hm⟩⟩, fun i hi => by
      have hi' : i < len := by simpa using hi
      have e1 : ((List.range len).map f).getD i ⟨#[]⟩ = f i := by simp [List.getD, hi']
      rw [e1]; exact (hf i hi').2, by simpa using h16⟩
    rcases Nat.eq_zero_or_pos len with h0 | h0
    · exact .inl h0
    · right
      obtain ⟨b, off, spot⟩ := y
      have hc0 := (hx 0 (by omega)).1
      have hspot : spot = none := by simpa [Addr.add] using World.cell?_spot hc0
      subst hspot
      have hb := World.block_lt_of_cell? w _ hc0
      refine ⟨b, off, rfl, by simpa [Addr.add] using hb, fun i hi => ?_⟩
      have hci := (hx i (by omega)).1
      rw [Addr.add_mid, (hf i hi).1] at hci
      rw [hci]
      have e1 : ((List.range len).map f).getD i ⟨#[]⟩ = f i := by simp [List.getD, hi]
      rw [e1]

theorem isT_of : ∀ (fuel : Nat) (cs : List Value) (x : DataW H × List MemPlace), DataW.trod enc Tryz.prog w base (fun _ => true) held fuel 37 cs = some x →
    (∀ m ∈ x.1.weights Tryz.prog 37, m ≤ reachBytes) → ∃ t, IsT w fuel cs t ∧ Small t := by
  intro fuel
  induction fuel using Nat.strongRecOn with
  | _ fuel ih =>
  intro cs x h hw
  obtain ⟨xs, n, rfl, hx, hlen, hxl, hg⟩ := DataW.trod_struct Tryz.underlying37 h
  have hC : Tryz.prog.cellsOf 37 = 5 := by kernel_rfl
  have k0 : Tryz.prog.cellsOf 5 = 1 := by kernel_rfl
  have k1 : Tryz.prog.cellsOf 4 = 1 := by kernel_rfl
  have k2 : Tryz.prog.cellsOf 33 = 1 := by kernel_rfl
  have k3 : Tryz.prog.cellsOf 34 = 1 := by kernel_rfl
  have k4 : Tryz.prog.cellsOf 35 = 1 := by kernel_rfl
  rw [hC] at hlen
  have hW : ∀ m ∈ DataW.weightsEach Tryz.prog [5, 4, 33, 34, 35] (xs.map (·.1)), m ≤ reachBytes := by
    rw [hx] at hw
    simpa [DataW.weights, Tryz.underlying37] using hw
  obtain ⟨c0, c1, c2, c3, c4, rfl⟩ := five_list hlen
  obtain ⟨y0, y1, y2, y3, y4, rfl⟩ := five_list (show xs.length = 5 from hxl)
  have g0 : DataW.trod enc Tryz.prog w base (fun _ => true) held n 5 [c0] = some y0 := by simpa [k0] using hg 0 _ rfl
  have g1 : DataW.trod enc Tryz.prog w base (fun _ => true) held n 4 [c1] = some y1 := by simpa [k1] using hg 1 _ rfl
  have g2 : DataW.trod enc Tryz.prog w base (fun _ => true) held n 33 [c2] = some y2 := by simpa [k2] using hg 2 _ rfl
  have g3 : DataW.trod enc Tryz.prog w base (fun _ => true) held n 34 [c3] = some y3 := by simpa [k3] using hg 3 _ rfl
  have g4 : DataW.trod enc Tryz.prog w base (fun _ => true) held n 35 [c4] = some y4 := by simpa [k4] using hg 4 _ rfl
  obtain ⟨z, hz, _, hzw⟩ := DataW.trod_int Tryz.underlying5 g0
  obtain ⟨b, hb, _⟩ := DataW.trod_bool Tryz.underlying4 g1
  obtain ⟨ad, nd, cd, d, rfl, hB⟩ := isB_of g2 (fun m hm => hW m (DataW.weights_mem_each (j := 2) rfl rfl m hm))
  obtain ⟨an, nn, cn, ns, rfl, hS, hsm, h16⟩ := isS_of g3 (fun m hm => hW m (DataW.weights_mem_each (j := 3) rfl rfl m hm))
  have hW4 : ∀ m ∈ y4.1.weights Tryz.prog 35, m ≤ reachBytes := fun m hm => hW m (DataW.weights_mem_each (j := 4) rfl rfl m hm)
  have hk : ∃ ak nk ck ks, c4 = .slice ak nk ck ∧ IsK (IsT w n) w ak nk ck ks ∧ (∀ i, i < ks.length → Small (ks.getD i default)) ∧ ks.length * 80 ≤ 140737488355328 := by
    rcases DataW.trod_slice Tryz.underlying35 g4 with ⟨hc, _⟩ | ⟨y, len, cap, elems, rest, n', rfl, hc, hy, _, hl, hm, hel, hget, _, _⟩
    · simp at hc
      exact ⟨none, 0, 0, [], hc, ⟨rfl, .inl rfl, fun _ => ⟨rfl, rfl⟩, ⟨Nat.le_refl _, Nat.zero_le _⟩⟩, fun i hi => by simp at hi, by simp⟩
    · simp at hc
      have hb80 : Tryz.prog.bytesOf 37 = 80 := by kernel_rfl
      have h80 : len * 80 ≤ 140737488355328 := by
        have := hW4 (((elems.map (·.1)).length + (rest.map (·.1)).length) * Tryz.prog.bytesOf 37) (by rw [hy]; simp [DataW.weights, Tryz.underlying35])
        rw [hb80, List.length_map, hel] at this
        unfold reachBytes at this
        omega
      have hall : ∀ i, i < len → ∃ t : T, Small t ∧ ∃ c0 c1 c2 c3 c4, IsT w (n' + 1) [c0, c1, c2, c3, c4] t ∧ w.cell? (y.add (i * 5)) = some c0 ∧ w.cell? (y.add (i * 5 + 1)) = some c1 ∧ w.cell? (y.add (i * 5 + 2)) = some c2 ∧ w.cell? (y.add (i * 5 + 3)) = some c3 ∧ w.cell? (y.add (i * 5 + 4)) = some c4 := by
        intro i hi
        have he : elems[i]? = some (elems[i]'(by omega)) := List.getElem?_eq_getElem (by omega)
        have h1 := hget i hi
        rw [he, hC] at h1
        obtain ⟨cs', hcs', ht⟩ := Option.bind_eq_some_iff.1 h1
        obtain ⟨_, hl5, hat⟩ := World.cells?_some hcs'
        obtain ⟨t, hT, hsm'⟩ := ih n' (by omega) cs' _ ht (fun m hm => hW4 m (by
          rw [hy]
          simp only [DataW.weights, Tryz.underlying35, List.mem_cons, List.mem_append]
          refine .inr (.inl (weights_all _ i (elems[i]'(by omega)).1 ?_ m hm))
          rw [List.getElem?_map, he]; rfl))
        obtain ⟨d0, d1, d2, d3, d4, rfl⟩ := five_list hl5
        refine ⟨t, hsm', d0, d1, d2, d3, d4, isT_up _ _ _ hT, ?_, ?_, ?_, ?_, ?_⟩
        · simpa [Deep.add_add] using hat 0 (by omega)
        · simpa [Deep.add_add] using hat 1 (by omega)
        · simpa [Deep.add_add] using hat 2 (by omega)
        · simpa [Deep.add_add] using hat 3 (by omega)
        · simpa [Deep.add_add] using hat 4 (by omega)
      obtain ⟨f, hf⟩ := Deep.choose_lt hall
      refine ⟨some y, len, cap, (List.range len).map f, hc, ⟨by simp, ?_, (fun h => by cases h), ⟨hl, hm⟩⟩, fun i hi => by
        have hi' : i < len := by simpa using hi
        have e1 : ((List.range len).map f).getD i default = f i := by simp [List.getD, hi']
        rw [e1]; exact (hf i hi').1, by simpa using h80⟩
      rcases Nat.eq_zero_or_pos len with h0 | h0
      · exact .inl h0
      · right
        obtain ⟨b, off, spot⟩ := y
        obtain ⟨_, _, _, _, _, _, _, hc0, _⟩ := hf 0 (by omega)
        have hspot : spot = none := by simpa [Addr.add] using World.cell?_spot hc0
        subst hspot
        have hb := World.block_lt_of_cell? w _ hc0
        refine ⟨b, off, rfl, by simpa [Addr.add] using hb, fun i hi => ?_⟩
        obtain ⟨_, d0, d1, d2, d3, d4, hT, h0, h1, h2, h3, h4⟩ := hf i hi
        have e1 : ((List.range len).map f).getD i default = f i := by simp [List.getD, hi]
        rw [Addr.add_mid] at h0 h1 h2 h3 h4
        exact ⟨d0, d1, d2, d3, d4, by rw [e1]; exact hT, h0, h1, h2, h3, h4⟩
  obtain ⟨ak, nk, ck, ks, rfl, hK, hks, h80⟩ := hk
  simp only [List.cons.injEq, and_true] at hz hb
  subst hz hb
  exact ⟨.mk (UInt8.ofNat z.toNat) b d ns ks, ⟨ad, nd, cd, an, nn, cn, ak, nk, ck, by rw [byte_back hzw], hB, hS, hK⟩, .mk hsm hks ⟨by rw [hB.length]; exact hB.most, h16, h80⟩⟩

set_option maxRecDepth 100000 in
/-- A tree that came in. -/
theorem open_tree {r : Reach} {b0 : Nat} {v : Value} {d : DataW H} {p : List MemPlace} (hv : Value.okWide Tryz.prog w r b0 37 v) (h : DataW.Trod enc Tryz.prog w base (fun _ => true) held 37 v d p)
    (hw : ∀ m ∈ d.weights Tryz.prog 37, m ≤ reachBytes) : ∃ n cs t, v = .agg cs.toArray ∧ IsT w n cs t ∧ Small t := by
  obtain ⟨cs, rfl, hsz⟩ := okWide_struct Tryz.underlying37 hv
  obtain ⟨fuel, hf⟩ := h
  obtain ⟨t, ht, hs⟩ := isT_of fuel _ _ hf hw
  exact ⟨fuel, cs.toList, t, by simp, by simpa [Value.cells] using ht, hs⟩
end
end Go.Proofs.YtlccdenafnekjaaGreatDoor
namespace Go.Proofs.YtlccdenafnekjaaGreatDoor
open Go.RowKit
set_option linter.unusedVariables false

mutual
/-- How many trees there are in it, it among them. -/
def sizeN : T → Nat
  | .mk _ _ _ _ ks => 1 + sizeNL ks
def sizeNL : List T → Nat
  | [] => 0
  | k :: r => sizeN k + sizeNL r
end

theorem sizeN_mk (k : UInt8) (x : Bool) (d : List UInt8) (ns : List ByteArray) (ks : List T) : sizeN (.mk k x d ns ks) = 1 + sizeNL ks := by rw [sizeN]
theorem sizeNL_cons (k : T) (r : List T) : sizeNL (k :: r) = sizeN k + sizeNL r := by rw [sizeNL]
theorem sizeNL_append : ∀ p q : List T, sizeNL (p ++ q) = sizeNL p + sizeNL q
  | [], q => by simp [sizeNL]
  | k :: p, q => by rw [List.cons_append, sizeNL_cons, sizeNL_cons, sizeNL_append p q]; omega
theorem sizeN_pos : ∀ t : T, 1 ≤ sizeN t
  | .mk k x d ns ks => by rw [sizeN_mk]; omega
theorem sizeNL_len : ∀ l : List T, l.length ≤ sizeNL l
  | [] => by simp
  | k :: r => by rw [sizeNL_cons, List.length_cons]; have := sizeN_pos k; have := sizeNL_len r; omega
theorem sizeNL_drop {l : List T} {i : Nat} (h : i < l.length) : sizeNL (l.drop i) = sizeN (l.getD i default) + sizeNL (l.drop (i + 1)) := by
  rw [List.drop_eq_getElem_cons h, sizeNL_cons]
  simp [List.getD, List.getElem?_eq_getElem h]
theorem sizeNL_take {l : List T} {i : Nat} (h : i < l.length) : sizeNL (l.take (i + 1)) = sizeNL (l.take i) + sizeN (l.getD i default) := by
  rw [List.take_succ_eq_append_getElem h, sizeNL_append, sizeNL_cons]
  simp [List.getD, List.getElem?_eq_getElem h, sizeNL]
theorem sizeNL_get {l : List T} {i : Nat} (h : i < l.length) : sizeN (l.getD i default) ≤ sizeNL l := by
  have h1 := sizeNL_drop h
  have h2 := sizeNL_append (l.take i) (l.drop i)
  rw [List.take_append_drop] at h2
  omega

/-- The five cells of the i-th tree of a row. -/
def five (L : List Value) (i : Nat) : List Value := (L.drop (i * 5)).take 5

theorem five_get {L : List Value} {i : Nat} (j : Nat) (hj : j < 5) : (five L i)[j]? = L[i * 5 + j]? := by
  unfold five
  rw [List.getElem?_take_of_lt hj, List.getElem?_drop]
theorem five_at {L : List Value} {i : Nat} {c0 c1 c2 c3 c4 : Value} (h : five L i = [c0, c1, c2, c3, c4]) :
    L[i * 5]? = some c0 ∧ L[i * 5 + 1]? = some c1 ∧ L[i * 5 + 2]? = some c2 ∧ L[i * 5 + 3]? = some c3 ∧ L[i * 5 + 4]? = some c4 := by
  have g := fun j hj => five_get (L := L) (i := i) j hj
  rw [h] at g
  exact ⟨(g 0 (by omega)).symm, (g 1 (by omega)).symm, (g 2 (by omega)).symm, (g 3 (by omega)).symm, (g 4 (by omega)).symm⟩
theorem five_lt {L : List Value} {i : Nat} (h : (five L i).length = 5) : i * 5 + 4 < L.length := by
  unfold five at h
  rw [List.length_take, List.length_drop] at h
  omega
theorem five_set_same (L : List Value) (i j : Nat) (v : Value) (hj : j < 5) : five (L.set (i * 5 + j) v) i = (five L i).set j v := by
  apply List.ext_getElem?
  intro q
  by_cases hq : q < 5
  · rw [five_get q hq]
    rw [List.getElem?_set, List.getElem?_set]
    by_cases e : j = q
    · subst e
      rw [if_pos rfl, if_pos rfl]
      unfold five
      rw [List.length_take, List.length_drop]
      by_cases hl : i * 5 + j < L.length
      · rw [if_pos hl, if_pos (by omega)]
      · rw [if_neg hl, if_neg (by omega)]
    · rw [if_neg (by omega), if_neg e, five_get q hq]
  · unfold five
    rw [List.getElem?_eq_none (by rw [List.length_take]; omega), List.getElem?_eq_none (by rw [List.length_set, List.length_take]; omega)]
theorem five_set_other (L : List Value) (i i' j : Nat) (v : Value) (hj : j < 5) (h : i' ≠ i) : five (L.set (i * 5 + j) v) i' = five L i' := by
  apply List.ext_getElem?
  intro q
  by_cases hq : q < 5
  · rw [five_get q hq, five_get q hq, List.getElem?_set, if_neg (by omega)]
  · unfold five
    rw [List.getElem?_eq_none (by rw [List.length_take]; omega), List.getElem?_eq_none (by rw [List.length_take]; omega)]
theorem five_take {L : List Value} {i n : Nat} (h : i < n) : five (L.take (n * 5)) i = five L i := by
  apply List.ext_getElem?
  intro q
  by_cases hq : q < 5
  · rw [five_get q hq, five_get q hq, List.getElem?_take_of_lt (by omega)]
  · unfold five
    rw [List.getElem?_eq_none (by rw [List.length_take]; omega), List.getElem?_eq_none (by rw [List.length_take]; omega)]

def bv (b : UInt8) : Value := .int .u8 (b.toNat : Int)

/-! A row of one's own under changes. -/

theorem owns_but {w w' : World} {B q : Nat} {e : TypeId} {size : Nat} {v : Value} {n : Nat} {xs : List Value} (h : w.ownsRow B e size v n xs) (hb : But w.heap.size q w w') (hq : ∀ cs f, w.heap[q]? ≠ some (.cells cs e f)) : w'.ownsRow B e size v n xs := by
  refine ⟨h.1, ?_⟩
  rcases h.2 with hn | ⟨g, cap, cur, rfl, hg, hgg, rest⟩
  · exact .inl hn
  · refine .inr ⟨g, cap, cur, rfl, hg, ?_, rest⟩
    have hne : g ≠ q := fun e => hq _ _ (e ▸ hgg)
    exact (hb.block g (Array.getElem?_eq_some_iff.1 hgg).1 hne).trans hgg

theorem owns_low {w : World} {B B' : Nat} {e : TypeId} {size : Nat} {v : Value} {n : Nat} {xs : List Value} (h : w.ownsRow B e size v n xs) (hB : B' ≤ B) : w.ownsRow B' e size v n xs := by
  refine ⟨h.1, ?_⟩
  rcases h.2 with hn | ⟨g, cap, cur, rfl, hg, rest⟩
  · exact .inl hn
  · exact .inr ⟨g, cap, cur, rfl, by omega, rest⟩

/-- A block that holds neither bytes nor texts. -/
def Far (w : World) (q : Nat) : Prop := (∀ cs f, w.heap[q]? ≠ some (.cells cs 5 f)) ∧ (∀ cs f, w.heap[q]? ≠ some (.cells cs 9 f))

theorem far_new (w : World) : Far w w.heap.size := by
  have h : w.heap[w.heap.size]? = none := by simp
  exact ⟨fun cs f => by rw [h]; simp, fun cs f => by rw [h]; simp⟩
theorem far_has {w : World} {q : Nat} {L : List Value} {t : TypeId} (h : Has w q L t) (h1 : t ≠ 5) (h2 : t ≠ 9) : Far w q := by
  have h' : w.heap[q]? = some (.cells L.toArray t (0, 0)) := h
  refine ⟨fun cs f e => ?_, fun cs f e => ?_⟩
  · rw [h'] at e; cases e; exact h1 rfl
  · rw [h'] at e; cases e; exact h2 rfl
theorem far_cells {w : World} {q : Nat} {L : Array Value} {t : TypeId} {f : Nat × Nat} (h : w.heap[q]? = some (.cells L t f)) (h1 : t ≠ 5) (h2 : t ≠ 9) : Far w q := by
  refine ⟨fun cs f e => ?_, fun cs f e => ?_⟩
  · rw [h] at e; cases e; exact h1 rfl
  · rw [h] at e; cases e; exact h2 rfl

/-- Five cells that read as a tree, all of whose lists lie in rows of their own from block B on; where its kids lie G says. -/
def Flat (w : World) (B : Nat) (G : Nat → Option (List T)) (cs : List Value) : T → Prop
  | .mk k x d ns ks => ∃ vd vn ak nk ck, cs = [.int .u8 (k.toNat : Int), .bool x, vd, vn, .slice ak nk ck] ∧
      w.ownsRow B 5 1 vd d.length (d.map bv) ∧ w.ownsRow B 9 1 vn ns.length (ns.map Value.string) ∧
      nk = ks.length ∧ nk ≤ ck ∧ ck ≤ maxLen ∧ ((ks = [] ∧ (ak = none → ck = 0)) ∨ ∃ b, ak = some ⟨b, 0, none⟩ ∧ ks ≠ [] ∧ G b = some ks)

theorem Flat.but {w w' : World} {B q : Nat} {G G' : Nat → Option (List T)} {cs : List Value} {t : T} (h : Flat w B G cs t) (hb : But w.heap.size q w w') (hq : Far w q) (hG : ∀ b ks, G b = some ks → G' b = some ks) : Flat w' B G' cs t := by
  obtain ⟨k, x, d, ns, ks⟩ := t
  obtain ⟨vd, vn, ak, nk, ck, hcs, hd, hn, h1, h2, h3, h4⟩ := h
  exact ⟨vd, vn, ak, nk, ck, hcs, owns_but hd hb hq.1, owns_but hn hb hq.2, h1, h2, h3, h4.imp id fun ⟨b, e1, e2, e3⟩ => ⟨b, e1, e2, hG _ _ e3⟩⟩

/-- Each of these trees is in memory of its own, in block b. -/
def Done (w : World) (B : Nat) (G : Nat → Option (List T)) (b : Nat) (ks : List T) : Prop := ∃ L, Has w b L 37 ∧ ∀ i, i < ks.length → Flat w B G (five L i) (ks.getD i default)

theorem Done.but {w w' : World} {B b q : Nat} {G G' : Nat → Option (List T)} {ks : List T} (h : Done w B G b ks) (hb : But w.heap.size q w w') (hq : Far w q) (hne : b ≠ q) (hG : ∀ b ks, G b = some ks → G' b = some ks) : Done w' B G' b ks := by
  obtain ⟨L, hL, hF⟩ := h
  exact ⟨L, hL.but hb hL.lt hne, fun i hi => (hF i hi).but hb hq hG⟩

/-- Each of these trees still has its old lists. -/
def Pend (w0 w : World) (b : Nat) (ks : List T) : Prop := ∃ L, Has w b L 37 ∧ ∀ i, i < ks.length → ∃ n, IsT w0 n (five L i) (ks.getD i default)

theorem Pend.but {w0 w w' : World} {b q : Nat} {ks : List T} (h : Pend w0 w b ks) (hb : But w.heap.size q w w') (hne : b ≠ q) : Pend w0 w' b ks := by
  obtain ⟨L, hL, hF⟩ := h
  exact ⟨L, hL.but hb hL.lt hne, hF⟩

/-- A copy on its way: S are the rows that must still get lists of their own (block, trees, capacity), cur the one that is gone through. -/
structure Cpy (w0 w : World) (G : Nat → Option (List T)) (S : List (Nat × List T × Nat)) (cur : Option Nat) : Prop where
  below : Below w0.heap.size w0 w
  fresh : ∀ b ks, G b = some ks → w0.heap.size ≤ b ∧ b < w.heap.size
  done : ∀ b ks, G b = some ks → (∀ p ∈ S, p.1 ≠ b) → cur ≠ some b → Done w w0.heap.size G b ks
  pend : ∀ p ∈ S, G p.1 = some p.2.1 ∧ Pend w0 w p.1 p.2.1 ∧ p.2.1 ≠ [] ∧ cur ≠ some p.1 ∧ p.2.1.length ≤ p.2.2 ∧ p.2.2 ≤ maxLen
  nodup : (S.map (·.1)).Nodup

/-- A block that is none of these is written. -/
theorem Cpy.but {w0 w w' : World} {G : Nat → Option (List T)} {S : List (Nat × List T × Nat)} {cur : Option Nat} {q : Nat} (h : Cpy w0 w G S cur) (hb : But w.heap.size q w w') (hq : Far w q) (hB : w0.heap.size ≤ q) (hne : ∀ ks, G q = some ks → cur = some q) : Cpy w0 w' G S cur := by
  have hsz := h.below.size
  refine ⟨h.below.trans ((hb.mono hsz).below hB), fun b ks hg => ⟨(h.fresh b ks hg).1, Nat.lt_of_lt_of_le (h.fresh b ks hg).2 hb.size⟩, fun b ks hg hS hc => ?_, fun p hp => ?_, h.nodup⟩
  · exact (h.done b ks hg hS hc).but hb hq (fun e => hc (by rw [e]; exact hne ks (e ▸ hg))) (fun _ _ h => h)
  · obtain ⟨h1, h2, h3, h4, h5, h6⟩ := h.pend p hp
    exact ⟨h1, h2.but hb (fun e => h4 (by rw [e]; exact hne _ (e ▸ h1))), h3, h4, h5, h6⟩

theorem Cpy.later {w0 w w' : World} {G : Nat → Option (List T)} {S : List (Nat × List T × Nat)} {cur : Option Nat} (h : Cpy w0 w G S cur) (hb : Below w.heap.size w w') : Cpy w0 w' G S cur :=
  h.but (q := w.heap.size) (But.of_below hb) (far_new w) h.below.size (fun ks hg => by have := (h.fresh _ ks hg).2; omega)

/-- A new row is to be gone through, too. -/
theorem Cpy.push {w0 w : World} {G : Nat → Option (List T)} {S : List (Nat × List T × Nat)} {q b c : Nat} {ks : List T} (h : Cpy w0 w G S (some q)) (hP : Pend w0 w b ks) (hnew : G b = none) (h0 : w0.heap.size ≤ b) (hks : ks ≠ []) (hbq : b ≠ q) (hc : ks.length ≤ c) (hm : c ≤ maxLen) :
    Cpy w0 w (fun x => if x = b then some ks else G x) (S ++ [(b, ks, c)]) (some q) := by
  have hlt : b < w.heap.size := by obtain ⟨L, hL, _⟩ := hP; exact hL.lt
  have hS : ∀ p ∈ S, p.1 ≠ b := fun p hp e => by have := (h.pend p hp).1; rw [e, hnew] at this; cases this
  have hG : ∀ b' ks', G b' = some ks' → (fun x => if x = b then some ks else G x) b' = some ks' := fun b' ks' hg => by
    by_cases e : b' = b
    · rw [e, hnew] at hg; cases hg
    · simpa [e] using hg
  refine ⟨h.below, fun b' ks' hg => ?_, fun b' ks' hg hS' hc' => ?_, fun p hp => ?_, ?_⟩
  · by_cases e : b' = b
    · subst e; exact ⟨h0, hlt⟩
    · exact h.fresh b' ks' (by simpa [e] using hg)
  · have e : b' ≠ b := fun e => hS' (b, ks, c) (by simp) e.symm
    obtain ⟨L, hL, hF⟩ := h.done b' ks' (by simpa [e] using hg) (fun p hp => hS' p (by simp [hp])) hc'
    exact ⟨L, hL, fun i hi => (hF i hi).but (But.refl _ w.heap.size _) (far_new w) hG⟩
  · rcases List.mem_append.1 hp with hp | hp
    · obtain ⟨h1, h2, h3, h4, h5, h6⟩ := h.pend p hp
      exact ⟨hG _ _ h1, h2, h3, h4, h5, h6⟩
    · simp only [List.mem_cons, List.not_mem_nil, or_false] at hp
      subst hp
      exact ⟨by simp, hP, hks, fun e => hbq (Option.some.inj e).symm, hc, hm⟩
  · rw [List.map_append, List.nodup_append]
    refine ⟨h.nodup, by simp, fun a ha b' hb' => ?_⟩
    obtain ⟨p, hp, rfl⟩ := List.mem_map.1 ha
    simp at hb'
    subst hb'
    exact hS p hp

/-- The last row is gone through now. -/
theorem Cpy.pop {w0 w : World} {G : Nat → Option (List T)} {S : List (Nat × List T × Nat)} {b c : Nat} {ks : List T} (h : Cpy w0 w G (S ++ [(b, ks, c)]) none) : Cpy w0 w G S (some b) ∧ Pend w0 w b ks ∧ G b = some ks ∧ ks ≠ [] ∧ ks.length ≤ c ∧ c ≤ maxLen := by
  have hp := h.pend (b, ks, c) (by simp)
  have hnd := h.nodup
  rw [List.map_append, List.nodup_append] at hnd
  have hS : ∀ p ∈ S, p.1 ≠ b := fun p hp' => hnd.2.2 p.1 (List.mem_map_of_mem hp') b (by simp)
  refine ⟨⟨h.below, h.fresh, fun b' ks' hg hS' hc' => h.done b' ks' hg (fun p hp' => ?_) (by simp), fun p hp' => ?_, hnd.1⟩, hp.2.1, hp.1, hp.2.2.1, hp.2.2.2.2⟩
  · rcases List.mem_append.1 hp' with hp' | hp'
    · exact hS' p hp'
    · simp only [List.mem_cons, List.not_mem_nil, or_false] at hp'
      subst hp'
      exact fun e => hc' (by rw [← e])
  · obtain ⟨h1, h2, h3, h4, h5⟩ := h.pend p (by simp [hp'])
    exact ⟨h1, h2, h3, fun e => hS p hp' (Option.some.inj e).symm, h5⟩

/-- The row that was gone through has lists of its own. -/
theorem Cpy.finish {w0 w : World} {G : Nat → Option (List T)} {S : List (Nat × List T × Nat)} {b : Nat} {ks : List T} (h : Cpy w0 w G S (some b)) (hg : G b = some ks) (hd : Done w w0.heap.size G b ks) : Cpy w0 w G S none := by
  refine ⟨h.below, h.fresh, fun b' ks' hg' hS' hc' => ?_, fun p hp => ?_, h.nodup⟩
  · by_cases e : b' = b
    · subst e; rw [hg] at hg'; cases hg'; exact hd
    · exact h.done b' ks' hg' hS' (fun e' => e (Option.some.inj e').symm)
  · obtain ⟨h1, h2, h3, h4, h5⟩ := h.pend p hp
    exact ⟨h1, h2, h3, by simp, h5⟩

/-- A row of bytes of one's own as a list of bytes. -/
theorem isB_owned {w : World} {B : Nat} {v : Value} {l : List UInt8} (h : w.ownsRow B 5 1 v l.length (l.map bv)) (hm : l.length ≤ 140737488355328) : ∃ a c, v = .slice a l.length c ∧ IsB w a l.length c l := by
  rcases h.2 with ⟨rfl, h0⟩ | ⟨g, cap, cur, rfl, hg, hgg, hle, hmx, hsz, htk⟩
  · exact ⟨none, 0, by rw [h0], ⟨rfl, .inl h0, fun _ => ⟨h0, rfl⟩, ⟨by omega, Nat.zero_le _⟩, hm⟩⟩
  · refine ⟨_, _, rfl, ⟨rfl, .inr ⟨g, 0, rfl, (Array.getElem?_eq_some_iff.1 hgg).1, fun i hi => ?_⟩, (fun e => by cases e), ⟨hle, hmx⟩, hm⟩⟩
    have hc := World.ownsRow.cellAt h i (by omega)
    rw [Nat.zero_add, hc, List.getElem?_map, List.getElem?_eq_getElem hi]
    simp [bv, List.getD, List.getElem?_eq_getElem hi]

theorem isS_owned {w : World} {B : Nat} {v : Value} {l : List ByteArray} (h : w.ownsRow B 9 1 v l.length (l.map Value.string)) : ∃ a c, v = .slice a l.length c ∧ IsS w a l.length c l := by
  rcases h.2 with ⟨rfl, h0⟩ | ⟨g, cap, cur, rfl, hg, hgg, hle, hmx, hsz, htk⟩
  · exact ⟨none, 0, by rw [h0], ⟨rfl, .inl h0, fun _ => ⟨h0, rfl⟩, ⟨by omega, Nat.zero_le _⟩⟩⟩
  · refine ⟨_, _, rfl, ⟨rfl, .inr ⟨g, 0, rfl, (Array.getElem?_eq_some_iff.1 hgg).1, fun i hi => ?_⟩, (fun e => by cases e), ⟨hle, hmx⟩⟩⟩
    have hc := World.ownsRow.cellAt h i (by omega)
    rw [Nat.zero_add, hc, List.getElem?_map, List.getElem?_eq_getElem hi]
    simp [List.getD, List.getElem?_eq_getElem hi]

theorem isT_mono {w : World} : ∀ (m n : Nat) (cs : List Value) (t : T), n ≤ m → IsT w n cs t → IsT w m cs t
  | 0, n, cs, t, h, ht => by obtain rfl : n = 0 := by omega
                             exact ht
  | m + 1, n, cs, t, h, ht => by
    by_cases e : n = m + 1
    · subst e; exact ht
    · exact isT_up m cs t (isT_mono m n cs t (by omega) ht)

/-- A tree that is all in memory of its own, from block B on. -/
def Closed (w : World) (B : Nat) (G : Nat → Option (List T)) (cs : List Value) (t : T) : Prop := (∀ b ks, G b = some ks → B ≤ b ∧ Done w B G b ks) ∧ Flat w B G cs t

theorem isT_closed {w : World} {B : Nat} {G : Nat → Option (List T)} (hall : ∀ b ks, G b = some ks → B ≤ b ∧ Done w B G b ks) : ∀ (n : Nat) (cs : List Value) (t : T), sizeN t ≤ n → Flat w B G cs t → Small t → IsT w n cs t
  | 0, cs, t, hn, _, _ => by have := sizeN_pos t; omega
  | n + 1, cs, .mk k x d ns ks, hn, hf, hs => by
    obtain ⟨vd, vn, ak, nk, ck, rfl, hd, hnm, rfl, h2, h3, h4⟩ := hf
    rw [sizeN_mk] at hn
    cases hs with
    | mk s1 s2 s3 =>
    obtain ⟨ad, cd, rfl, hB⟩ := isB_owned hd s3.1
    obtain ⟨an, cn, rfl, hS⟩ := isS_owned hnm
    refine ⟨ad, _, cd, an, _, cn, ak, _, ck, rfl, hB, hS, ⟨rfl, ?_, ?_, ⟨h2, h3⟩⟩⟩
    · rcases h4 with ⟨rfl, _⟩ | ⟨b, rfl, hks, hg⟩
      · exact .inl rfl
      · obtain ⟨_, L, hL, hF⟩ := hall b ks hg
        refine .inr ⟨b, 0, rfl, hL.lt, fun i hi => ?_⟩
        have hi' := isT_closed hall n (five L i) (ks.getD i default) (by have := sizeNL_get hi; omega) (hF i hi) (s2 i hi)
        cases n with
        | zero => have := sizeN_pos (ks.getD i default); have := sizeNL_get hi; omega
        | succ n =>
        have hi2 := hi'
        generalize ks.getD i default = tt at hi' hi2
        obtain ⟨k', x', d', ns', ks'⟩ := tt
        obtain ⟨ad', nd', cd', an', nn', cn', ak', nk', ck', h5, _⟩ := hi'
        obtain ⟨q0, q1, q2, q3, q4⟩ := five_at h5
        refine ⟨_, _, _, _, _, by rw [← h5]; exact hi2, ?_, ?_, ?_, ?_, ?_⟩
        · rw [Nat.zero_add]; exact hL.cellAt q0
        · rw [Nat.zero_add]; exact hL.cellAt q1
        · rw [Nat.zero_add]; exact hL.cellAt q2
        · rw [Nat.zero_add]; exact hL.cellAt q3
        · rw [Nat.zero_add]; exact hL.cellAt q4
    · intro e
      rcases h4 with ⟨rfl, h5⟩ | ⟨b, rfl, _⟩
      · exact ⟨rfl, h5 e⟩
      · cases e

theorem Closed.isT {w : World} {B : Nat} {G : Nat → Option (List T)} {cs : List Value} {t : T} (h : Closed w B G cs t) (hs : Small t) : IsT w (sizeN t) cs t := isT_closed h.1 _ cs t (Nat.le_refl _) h.2 hs

theorem Cpy.closed {w0 w : World} {G : Nat → Option (List T)} {b : Nat} {t : T} (h : Cpy w0 w G [] none) (hg : G b = some [t]) : ∃ L, Has w b L 37 ∧ Closed w w0.heap.size G (five L 0) t := by
  have hd := fun b ks hg => h.done b ks hg (by simp) (by simp)
  obtain ⟨L, hL, hF⟩ := hd b [t] hg
  exact ⟨L, hL, fun b ks hg => ⟨(h.fresh b ks hg).1, hd b ks hg⟩, hF 0 (by simp)⟩

end Go.Proofs.YtlccdenafnekjaaGreatDoor
namespace Go.Proofs.YtlccdenafnekjaaGreatDoor
open Go.RowKit
set_option linter.unusedVariables false

theorem takeT_facts {k : UInt8} {x : Bool} {d : List UInt8} {ns : List ByteArray} {ks : List T} {D n b : Nat} {r : Nat × Nat} (h : takeT (.mk k x d ns ks) D n b = some r) :
    D ≤ 16 ∧ n + 1 ≤ 4096 ∧ formedT (.mk k x d ns ks) = true ∧ takeL ks (D + 1) (n + 1) (b + d.length) = some r := by
  rw [takeT_mk] at h
  split at h
  · rename_i hc; exact ⟨hc.1, hc.2.1, hc.2.2.2, h⟩
  · cases h

theorem formed_lens {k : UInt8} {x : Bool} {d : List UInt8} {ns : List ByteArray} {ks : List T} (h : formedT (.mk k x d ns ks) = true) : ns.length = ks.length ∧ ∀ i, i < ns.length → (ns.getD i ⟨#[]⟩).size ≤ 80 := by
  by_cases h3 : k = 3
  · subst h3
    rw [formedT_dir] at h
    simp only [Bool.and_eq_true, decide_eq_true_eq] at h
    refine ⟨h.1.2, fun i hi => ?_⟩
    have hr := h.2
    unfold risingT at hr
    rw [List.all_eq_true] at hr
    have := hr i (List.mem_range.2 hi)
    simp only [Bool.and_eq_true] at this
    have hn := this.1
    unfold tName at hn
    simp only [Bool.and_eq_true, decide_eq_true_eq] at hn
    have h80 := hn.1.1.1.1.2
    have : (ns.getD i ⟨#[]⟩).data.toList.length = (ns.getD i ⟨#[]⟩).size := by simp
    omega
  · rw [formedT_other h3] at h
    simp only [Bool.and_eq_true, List.isEmpty_iff] at h
    obtain ⟨⟨rfl, rfl⟩, _⟩ := h
    exact ⟨rfl, fun i hi => by simp at hi⟩

mutual
theorem take_size : ∀ (t : T) (D n b : Nat) (r : Nat × Nat), takeT t D n b = some r → n + sizeN t = r.1
  | .mk k x d ns ks, D, n, b, r, h => by
    have hf := takeT_facts h
    have := takeL_size ks _ _ _ r hf.2.2.2
    rw [sizeN_mk]; omega
theorem takeL_size : ∀ (l : List T) (D n b : Nat) (r : Nat × Nat), takeL l D n b = some r → n + sizeNL l = r.1
  | [], D, n, b, r, h => by rw [takeL] at h; cases h; simp [sizeNL]
  | k :: l, D, n, b, r, h => by
    rw [takeL] at h
    cases hk : takeT k D n b with
    | none => rw [hk] at h; cases h
    | some q =>
      rw [hk] at h
      have h1 := take_size k _ _ _ q hk
      have h2 := takeL_size l _ _ _ r h
      rw [sizeNL_cons]; omega
end

theorem size_most {t : T} {r : Nat × Nat} (h : sizeT t = some r) : sizeN t = r.1 ∧ sizeN t ≤ 4096 := by
  have h1 := take_size t 0 0 0 r h
  have h2 := takeT_le t 0 0 0 r h
  omega

/-- It is a tree, or stands in one. -/
def Good (t : T) : Prop := ∃ D c b r, takeT t D c b = some r

theorem Good.of {t : T} {q : Nat × Nat} (h : sizeT t = some q) : Good t := ⟨0, 0, 0, q, h⟩
theorem Good.lens {k : UInt8} {x : Bool} {d : List UInt8} {ns : List ByteArray} {ks : List T} (h : Good (.mk k x d ns ks)) : ns.length = ks.length := by
  obtain ⟨D, c, b, r, h⟩ := h
  exact (formed_lens (takeT_facts h).2.2.1).1
theorem Good.kid {k : UInt8} {x : Bool} {d : List UInt8} {ns : List ByteArray} {ks : List T} (h : Good (.mk k x d ns ks)) (i : Nat) (hi : i < ks.length) : Good (ks.getD i default) := by
  obtain ⟨D, c, b, r, h⟩ := h
  have hL := (takeT_facts h).2.2.2
  cases hp : takeL (ks.take i) (D + 1) (c + 1) (b + d.length) with
  | none => rw [takeL_none hp] at hL; cases hL
  | some q =>
    have hs := takeL_step hi hp
    cases hk : takeT (ks.getD i default) (D + 1) q.1 q.2 with
    | none =>
      rw [hk] at hs
      rw [takeL_none hs] at hL; cases hL
    | some r' => exact ⟨_, _, _, r', hk⟩

theorem rangeAt_has {w : World} {b : Nat} {L : List Value} {t : TypeId} (h : Has w b L t) : w.rangeAt b 0 L := fun j v hv => by
  rw [Nat.zero_add]; exact h.cellAt hv

end Go.Proofs.YtlccdenafnekjaaGreatDoor
namespace Go.Proofs.YtlccdenafnekjaaGreatDoor
open Go.RowKit
set_option linter.unusedVariables false

theorem below_drewN {B : Nat} {a w : World} (h : Below B a w) (n : Nat) : Below B a (w.drewN n) := ⟨h.os, h.tape, h.output, h.size, h.block⟩
theorem has_drewN {w : World} {b : Nat} {L : List Value} {t : TypeId} (h : Has w b L t) (n : Nat) : Has (w.drewN n) b L t := h
theorem IsS.drewN {w : World} {a : Option Addr} {len cap : Nat} {l : List ByteArray} (h : IsS w a len cap l) (n : Nat) : IsS (w.drewN n) a len cap l := h.later (below_drewN (Below.refl _ _) n)

theorem less_swap : ∀ p s : List UInt8, (!(Op.bytesLess p s)) = (Op.bytesLess s p || s == p)
  | [], [] => rfl
  | [], b :: s => rfl
  | a :: p, [] => rfl
  | a :: p, b :: s => by
    have ih := less_swap p s
    simp only [Op.bytesLess, List.cons_beq_cons]
    by_cases h1 : a < b
    · have h2 : ¬ b < a := by rw [UInt8.lt_iff_toNat_lt] at *; omega
      have h3 : (b == a) = false := by rw [beq_eq_false_iff_ne]; rintro rfl; exact h2 h1
      simp [h1, h2, h3]
    · by_cases h2 : b < a
      · have h3 : (b == a) = false := by rw [beq_eq_false_iff_ne]; rintro rfl; exact h1 h2
        have h4 : (a == b) = false := by rw [beq_eq_false_iff_ne]; rintro rfl; exact h1 h2
        simp [h1, h2, h3, h4]
      · have h3 : a = b := by rw [UInt8.lt_iff_toNat_lt] at *; exact UInt8.toNat_inj.1 (by omega)
        subst h3
        simpa [h1] using ih

set_option maxRecDepth 100000 in
set_option maxHeartbeats 20000000 in
theorem own_dir (x : Bool) (d : List UInt8) (ns : List ByteArray) (ks : List T) (w : World) (ad : Option Addr) (nd cd : Nat) (an : Option Addr) (nn cn : Nat) (ak : Option Addr) (nk ck : Nat)
    (ld : d.length = nd) (lk : ks.length = nk) (hS : IsS w an nn cn ns) (hsm : ∀ i, i < ns.length → (ns.getD i ⟨#[]⟩).size ≤ 140737488355328) :
    Calls Tryz.prog 68 #[.agg #[.int .u8 3, .bool x, .slice ad nd cd, .slice an nn cn, .slice ak nk ck]] w fun e w' => e = .returned (.bool (formedT (.mk 3 x d ns ks))) ∧ Below w.heap.size w w' := by
  have ln := hS.length
  rw [formedT_dir, empty_len, ld, ln, lk]
  have hnot : ∀ (x : Bool) (w : World), (Op.unary .not (.bool x)).run Tryz.prog w = .ok (.bool (!x)) w := fun _ _ => rfl
  have HS := Lib.hid hS
  have HSM := Lib.hid hsm
  clear hS ld lk ln hsm
  go_enter Tryz.func68, Tryz.ntmps68
  go_wp2_with fail
  obtain ⟨w1, hw1⟩ : ∃ w1, w1 = w.alloc (.cells #[.int .u8 3, .bool x, .slice ad nd cd, .slice an nn cn, .slice ak nk ck] 37) := ⟨_, rfl⟩
  have g1 : Has w1 w.heap.size [.int .u8 3, .bool x, .slice ad nd cd, .slice an nn cn, .slice ak nk ck] 37 := by rw [hw1]; exact Has.new w _ _
  have b1 : Below w.heap.size w w1 := by rw [hw1]; exact (Below.refl _ _).alloc (Nat.le_refl _) _
  rw [← hw1]
  have HS1 := Lib.hid (HS.out.later b1)
  have B1 := Lib.hid b1
  have G1 := Lib.hid g1
  clear hw1 b1 HS g1
  obtain ⟨g, hg⟩ : ∃ g, g = w.heap.size := ⟨_, rfl⟩
  rw [← hg] at G1 B1 ⊢
  have HGE := Lib.hid hg
  clear hg
  go_loopw [4] (fun ii wr => ∃ (k : Nat), k ≤ nn ∧ ii = .int .i64 k ∧ risingTo ns k ∧ Has wr g [.int .u8 3, .bool x, .slice ad nd cd, .slice an nn cn, .slice ak nk ck] 37 ∧ IsS wr an nn cn ns ∧ Below g w wr) (fun ii _ => nn - (intOf ii).toNat)
  case atStart => exact ⟨0, Nat.zero_le _, rfl, fun i hi => by omega, G1.out, HS1.out, B1.out⟩
  case round =>
    clear G1 HS1 B1
    obtain ⟨k, hk, rfl, hok, hg, hS, hbel⟩ := hrel
    have cg1 := hg.cellAt (i := 1) rfl
    have cg2 := hg.cellAt (i := 2) rfl
    have cg3 := hg.cellAt (i := 3) rfl
    have cg4 := hg.cellAt (i := 4) rfl
    have HG := Lib.hid hg
    have HL := Lib.hid hS
    have HBE := Lib.hid hbel
    clear hg hS hbel
    by_cases hlt : k < nn
    · rcases HL.out.at_ with h0 | ⟨b, off, rfl, hb, hc⟩
      · omega
      have hck := hc k hlt
      have hkl : Hid (k < ns.length) := Lib.hid (by rw [HL.out.length]; exact hlt)
      have hsz := Lib.hid (HSM.out k hkl.out)
      obtain ⟨s, hs⟩ : ∃ s, s = ns.getD k ⟨#[]⟩ := ⟨_, rfl⟩
      rw [← hs] at hck hsz
      have HS := Lib.hid hs
      have hki : (k : Int) < (nn : Int) := by omega
      have HOK := Lib.hid hok
      have HQ := Lib.hid (fun w => rname_any s w hsz.out)
      clear hs hok
      cases hn : tName s.data.toList
      · have HN := Lib.hid hn
        have HR : Hid (risingT ns = false) := Lib.hid (risingT_name hkl.out (by rw [← HS.out]; exact HN.out))
        have HQF : Hid (∀ w, Calls Tryz.prog 56 #[.string s] w fun e w' => e = .returned (.bool false) ∧ w = w') := Lib.hid (by rw [← HN.out]; exact HQ.out)
        clear hn hc HQ
        go_upto_region 15 with fail
        go_quiet ((go_at_call 56; exact Calls.quiet_of_same ((HQF.out _).mono (fun e w' h => ⟨h.1, h.2.symm⟩))))
        go_wp2_with fail
        go_ret
        exact ⟨by rw [HR.out, Bool.and_false]; rfl, by rw [← HGE.out]; exact below_drewN HBE.out _⟩
      · have HN := Lib.hid hn
        have HQF : Hid (∀ w, Calls Tryz.prog 56 #[.string s] w fun e w' => e = .returned (.bool true) ∧ w = w') := Lib.hid (by rw [← HN.out]; exact HQ.out)
        clear hn HQ
        rcases Nat.eq_zero_or_pos k with h0 | hpos
        · have hpi : ¬ (0 : Int) < (k : Int) := by omega
          have hp2 : ¬ 0 < k := by omega
          have HST := Lib.hid (risingTo_step HOK.out (by rw [← HS.out]; exact HN.out) (fun h => by omega))
          clear hc h0
          go_upto_region 15 with fail
          go_quiet ((go_at_call 56; exact Calls.quiet_of_same ((HQF.out _).mono (fun e w' h => ⟨h.1, h.2.symm⟩))))
          go_wp2_with fail
          go_roundw
          case rel => exact ⟨k + 1, by omega, by go_num, HST.out, has_drewN HG.out _, HL.out.drewN _, below_drewN HBE.out _⟩
          case measure => simp [intOf]; omega
        · have hcp := hc (k - 1) (by omega)
          obtain ⟨p, hp⟩ : ∃ p, p = ns.getD (k - 1) ⟨#[]⟩ := ⟨_, rfl⟩
          rw [← hp] at hcp
          have HP := Lib.hid hp
          obtain ⟨j, rfl⟩ : ∃ j, k = j + 1 := ⟨k - 1, by omega⟩
          have hroom := HL.out.room
          unfold maxLen at hroom
          have hwr : wrap64 (((j + 1 : Nat) : Int) - 1) = (j : Int) := by
            rw [show ((j + 1 : Nat) : Int) - 1 = (j : Int) by omega]
            unfold wrap64; omega
          rw [Nat.add_sub_cancel] at hcp
          have hpi : (0 : Int) < ((j + 1 : Nat) : Int) := by omega
          have hsw := Lib.hid (less_swap p.toList s.toList)
          clear hc hp
          cases hle : Op.bytesLess p.toList s.toList
          · have HR : Hid (risingT ns = false) := Lib.hid (risingT_less hkl.out (by omega) (by
              rw [← HS.out, Nat.add_sub_cancel, ← show p = ns.getD j ⟨#[]⟩ from HP.out]
              unfold leS
              rw [← hsw.out, hle]; rfl))
            go_upto_region 15 with fail
            go_quiet ((go_at_call 56; exact Calls.quiet_of_same ((HQF.out _).mono (fun e w' h => ⟨h.1, h.2.symm⟩))))
            go_wp2_with fail
            go_ret
            exact ⟨by rw [HR.out, Bool.and_false]; rfl, by rw [← HGE.out]; exact below_drewN HBE.out _⟩
          · have HST := Lib.hid (risingTo_step HOK.out (by rw [← HS.out]; exact HN.out) (fun _ => by
              rw [← HS.out, Nat.add_sub_cancel, ← show p = ns.getD j ⟨#[]⟩ from HP.out]
              unfold leS
              rw [← hsw.out, hle]; rfl))
            go_upto_region 15 with fail
            go_quiet ((go_at_call 56; exact Calls.quiet_of_same ((HQF.out _).mono (fun e w' h => ⟨h.1, h.2.symm⟩))))
            go_wp2_with fail
            go_roundw
            case rel => exact ⟨j + 1 + 1, by omega, by go_num, HST.out, has_drewN HG.out _, HL.out.drewN _, below_drewN HBE.out _⟩
            case measure => simp [intOf]; omega
    · obtain rfl : k = nn := by omega
      have HR : Hid (risingT ns = true) := Lib.hid (risingT_good (by rw [HL.out.length]; exact hok))
      clear hok
      cases x
      · by_cases hd : nd = 0
        · subst hd
          by_cases hnk : k = nk
          · subst hnk
            go_wp2_with fail
            go_ret
            exact ⟨by rw [HR.out]; simp, by rw [← HGE.out]; exact HBE.out⟩
          · have hne : ((k : Int) == (nk : Int)) = false := by rw [beq_eq_false_iff_ne]; omega
            have hne' : ¬ (k : Int) = (nk : Int) := by omega
            have hr : Hid (decide (k = nk) = false) := Lib.hid (decide_eq_false hnk)
            clear hnk
            go_wp2_with fail
            go_ret
            exact ⟨by rw [hr.out]; rfl, by rw [← HGE.out]; exact HBE.out⟩
        · have hne : ((nd : Int) == 0) = false := by rw [beq_eq_false_iff_ne]; omega
          have hne' : ¬ (nd : Int) = 0 := by omega
          have hr : Hid (decide (nd = 0) = false) := Lib.hid (decide_eq_false hd)
          clear hd
          go_wp2_with fail
          go_ret
          exact ⟨by rw [hr.out]; rfl, by rw [← HGE.out]; exact HBE.out⟩
      · go_wp2_with fail
        go_ret
        exact ⟨rfl, by rw [← HGE.out]; exact HBE.out⟩

end Go.Proofs.YtlccdenafnekjaaGreatDoor
namespace Go.Proofs.YtlccdenafnekjaaGreatDoor
open Go.RowKit
set_option linter.unusedVariables false

theorem sum_not {m n : Nat} (hm : m ≤ maxLen) (hn : n ≤ maxLen) (h : ¬ (m = 0 ∧ n = 0)) : wrap64 ((m : Int) + (n : Int)) ≠ 0 := by
  unfold maxLen at hm hn
  unfold wrap64
  omega

theorem both_not {m n : Nat} (h : ¬ (m = 0 ∧ n = 0)) : (decide (m = 0) && decide (n = 0)) = false := by
  rw [Bool.and_eq_false_iff]
  by_cases h0 : m = 0
  · exact .inr (decide_eq_false fun h1 => h ⟨h0, h1⟩)
  · exact .inl (decide_eq_false h0)

theorem clear_all {l : List UInt8} (h : ∀ i, i < l.length → l.getD i 0 ≠ 0) : l.contains 0 = false := by
  cases hc : l.contains 0 with
  | false => rfl
  | true =>
    have hm : (0 : UInt8) ∈ l := by simpa using hc
    obtain ⟨i, hi, he⟩ := List.getElem_of_mem hm
    exact absurd (by rw [List.getD_eq_getElem?_getD, List.getElem?_eq_getElem hi]; exact he) (h i hi)

set_option maxRecDepth 100000 in
set_option maxHeartbeats 20000000 in
theorem own_file (k : UInt8) (hk3 : k ≠ 3) (hk2 : k ≠ 2) (x : Bool) (d : List UInt8) (ns : List ByteArray) (ks : List T) (w : World) (ad : Option Addr) (nd cd : Nat) (an : Option Addr) (nn cn : Nat) (ak : Option Addr) (nk ck : Nat)
    (ln : ns.length = nn) (lk : ks.length = nk) (hn : nn ≤ maxLen) (hk : nk ≤ maxLen) :
    Calls Tryz.prog 68 #[.agg #[.int .u8 (k.toNat : Int), .bool x, .slice ad nd cd, .slice an nn cn, .slice ak nk ck]] w fun e w' => e = .returned (.bool (formedT (.mk k x d ns ks))) ∧ Below w.heap.size w w' := by
  rw [formedT_other hk3, empty_len, empty_len, ln, lk]
  have b1 : ∀ u : Array Value, Below w.heap.size w (w.alloc (.cells u 37)) := fun u => (Below.refl _ _).alloc (Nat.le_refl _) _
  have HB1 := Lib.hid b1
  have q2 : Hid ((k == 2) = false) := Lib.hid (by simpa using hk2)
  by_cases h1 : k = 1
  · subst h1
    by_cases hz : nn = 0 ∧ nk = 0
    · obtain ⟨rfl, rfl⟩ := hz
      clear b1 ln lk hn hk hk3 hk2
      go_enter Tryz.func68, Tryz.ntmps68
      go_wp2_with fail
      go_ret
      exact ⟨rfl, HB1.out _⟩
    · have hr := Lib.hid (both_not hz)
      have hs := sum_not hn hk hz
      obtain ⟨Z, hZ⟩ : ∃ Z, wrap64 ((nn : Int) + (nk : Int)) = Z := ⟨_, rfl⟩
      rw [hZ] at hs
      have z0 : (Z == 0) = false := by rw [beq_eq_false_iff_ne]; exact hs
      clear b1 ln lk hn hk hk3 hk2 hz
      go_enter Tryz.func68, Tryz.ntmps68
      go_wp2_with fail
      go_ret
      exact ⟨by rw [hr.out]; rfl, HB1.out _⟩
  · have q1 : Hid ((k == 1) = false) := Lib.hid (by simpa using h1)
    obtain ⟨z, hz⟩ : ∃ z : Int, z = (k.toNat : Int) := ⟨_, rfl⟩
    rw [← hz]
    have z3 : (z == 3) = false := by
      have : k.toNat ≠ 3 := fun h => hk3 (UInt8.toNat_inj.1 h)
      rw [beq_eq_false_iff_ne]; omega
    have z3' : ¬ z = 3 := by simpa using z3
    have z2 : (z == 2) = false := by
      have : k.toNat ≠ 2 := fun h => hk2 (UInt8.toNat_inj.1 h)
      rw [beq_eq_false_iff_ne]; omega
    have z2' : ¬ z = 2 := by simpa using z2
    have z1 : (z == 1) = false := by
      have : k.toNat ≠ 1 := fun h => h1 (UInt8.toNat_inj.1 h)
      rw [beq_eq_false_iff_ne]; omega
    have z1' : ¬ z = 1 := by simpa using z1
    clear b1 ln lk hn hk hk3 hk2 h1 hz
    go_enter Tryz.func68, Tryz.ntmps68
    go_wp2_with fail
    go_ret
    exact ⟨by rw [q1.out, q2.out]; simp, HB1.out _⟩

set_option maxRecDepth 100000 in
set_option maxHeartbeats 20000000 in
theorem own_link (x : Bool) (d : List UInt8) (ns : List ByteArray) (ks : List T) (w : World) (ad : Option Addr) (nd cd : Nat) (an : Option Addr) (nn cn : Nat) (ak : Option Addr) (nk ck : Nat)
    (hB : IsB w ad nd cd d) (ln : ns.length = nn) (lk : ks.length = nk) (hn : nn ≤ maxLen) (hk : nk ≤ maxLen) :
    Calls Tryz.prog 68 #[.agg #[.int .u8 2, .bool x, .slice ad nd cd, .slice an nn cn, .slice ak nk ck]] w fun e w' => e = .returned (.bool (formedT (.mk 2 x d ns ks))) ∧ Below w.heap.size w w' := by
  rw [formedT_other (by decide), empty_len, empty_len, ln, lk]
  have HS := Lib.hid hB
  have HSUM : Hid (¬ (nn = 0 ∧ nk = 0) → wrap64 ((nn : Int) + (nk : Int)) ≠ 0) := Lib.hid (fun h => sum_not hn hk h)
  clear hB ln lk hn hk
  go_enter Tryz.func68, Tryz.ntmps68
  go_wp2_with fail
  obtain ⟨w1, hw1⟩ : ∃ w1, w1 = w.alloc (.cells #[.int .u8 2, .bool x, .slice ad nd cd, .slice an nn cn, .slice ak nk ck] 37) := ⟨_, rfl⟩
  have g1 : Has w1 w.heap.size [.int .u8 2, .bool x, .slice ad nd cd, .slice an nn cn, .slice ak nk ck] 37 := by rw [hw1]; exact Has.new w _ _
  have b1 : Below w.heap.size w w1 := by rw [hw1]; exact (Below.refl _ _).alloc (Nat.le_refl _) _
  rw [← hw1]
  have HS1 := Lib.hid (HS.out.later b1)
  have B1 := Lib.hid b1
  have G1 := Lib.hid g1
  clear hw1 b1 HS g1
  obtain ⟨g, hg⟩ : ∃ g, g = w.heap.size := ⟨_, rfl⟩
  rw [← hg] at G1 B1 ⊢
  have HGE := Lib.hid hg
  clear hg
  go_loopw [3] (fun ii wr => ∃ (k : Nat), k ≤ nd ∧ ii = .int .i64 k ∧ (∀ i, i < k → d.getD i 0 ≠ 0) ∧ Has wr g [.int .u8 2, .bool x, .slice ad nd cd, .slice an nn cn, .slice ak nk ck] 37 ∧ IsB wr ad nd cd d ∧ Below g w wr) (fun ii _ => nd - (intOf ii).toNat)
  case atStart => exact ⟨0, Nat.zero_le _, rfl, fun i hi => by omega, G1.out, HS1.out, B1.out⟩
  case round =>
    clear G1 HS1 B1
    obtain ⟨k, hk, rfl, hok, hg, hS, hbel⟩ := hrel
    have cg1 := hg.cellAt (i := 1) rfl
    have cg2 := hg.cellAt (i := 2) rfl
    have cg3 := hg.cellAt (i := 3) rfl
    have cg4 := hg.cellAt (i := 4) rfl
    have HG := Lib.hid hg
    have HL := Lib.hid hS
    have HBE := Lib.hid hbel
    have HOK := Lib.hid hok
    clear hg hS hbel hok
    by_cases hlt : k < nd
    · rcases HL.out.at_ with h0 | ⟨b, off, rfl, hb, hc⟩
      · omega
      have hck := hc k hlt
      have hkl : Hid (k < d.length) := Lib.hid (by rw [HL.out.length]; exact hlt)
      have hki : (k : Int) < (nd : Int) := by omega
      have hroom := HL.out.room
      unfold maxLen at hroom
      have hni : (k : Int) + 1 ≤ 9223372036854775807 := by omega
      obtain ⟨z, hz⟩ : ∃ z : Int, z = ((d.getD k 0).toNat : Int) := ⟨_, rfl⟩
      rw [← hz] at hck
      by_cases h0 : d.getD k 0 = 0
      · have hz0 : z = 0 := by rw [hz, h0]; rfl
        subst hz0
        have HT : Hid (targetB d = false) := Lib.hid (by unfold targetB; rw [contains_at hkl.out h0]; simp)
        clear hz h0 hc
        go_wp2_with fail
        go_ret
        exact ⟨by rw [HT.out]; simp, by rw [← HGE.out]; exact HBE.out⟩
      · have hz0 : (z == 0) = false := by
          have : (d.getD k 0).toNat ≠ 0 := fun h => h0 (UInt8.toNat_inj.1 h)
          rw [beq_eq_false_iff_ne]; omega
        have hz0' : ¬ z = 0 := by simpa using hz0
        have HST : Hid (∀ i, i < k + 1 → d.getD i 0 ≠ 0) := Lib.hid (fun i hi => by
          by_cases e : i = k
          · subst e; exact h0
          · exact HOK.out i (by omega))
        clear hz h0 hc
        go_wp2_with fail
        go_roundw
        case rel => exact ⟨k + 1, by omega, by go_num, HST.out, HG.out, HL.out, HBE.out⟩
        case measure => simp [intOf]; omega
    · obtain rfl : k = nd := by omega
      have HC : Hid (d.contains 0 = false) := Lib.hid (clear_all (by rw [HL.out.length]; exact HOK.out))
      have HLD := Lib.hid HL.out.length
      cases x
      · by_cases hz : nn = 0 ∧ nk = 0
        · obtain ⟨rfl, rfl⟩ := hz
          by_cases h1 : 1 ≤ k
          · have i1 : (1 : Int) ≤ (k : Int) := by omega
            by_cases h4 : k ≤ 400
            · have i4 : (k : Int) ≤ 400 := by omega
              have HT : Hid (targetB d = true) := Lib.hid (by unfold targetB; rw [HLD.out, HC.out, decide_eq_true h1, decide_eq_true h4]; rfl)
              go_wp2_with fail
              go_ret
              exact ⟨by rw [HT.out]; simp, by rw [← HGE.out]; exact HBE.out⟩
            · have i4 : ¬ (k : Int) ≤ 400 := by omega
              have HT : Hid (targetB d = false) := Lib.hid (by unfold targetB; rw [HLD.out, decide_eq_false h4]; simp)
              clear h4
              go_wp2_with fail
              go_ret
              exact ⟨by rw [HT.out]; simp, by rw [← HGE.out]; exact HBE.out⟩
          · obtain rfl : k = 0 := by omega
            have HT : Hid (targetB d = false) := Lib.hid (by unfold targetB; rw [HLD.out]; rfl)
            clear h1
            go_wp2_with fail
            go_ret
            exact ⟨by rw [HT.out]; simp, by rw [← HGE.out]; exact HBE.out⟩
        · have hr := Lib.hid (both_not hz)
          have hs := HSUM.out hz
          obtain ⟨Z, hZ⟩ : ∃ Z, wrap64 ((nn : Int) + (nk : Int)) = Z := ⟨_, rfl⟩
          rw [hZ] at hs
          have z0 : (Z == 0) = false := by rw [beq_eq_false_iff_ne]; exact hs
          clear hz
          go_wp2_with fail
          go_ret
          exact ⟨by rw [hr.out]; rfl, by rw [← HGE.out]; exact HBE.out⟩
      · go_wp2_with fail
        go_ret
        exact ⟨by simp, by rw [← HGE.out]; exact HBE.out⟩

/-- The reference's own. -/
theorem own_any (n : Nat) (cs : List Value) (t : T) (w : World) (ht : IsT w n cs t) (hs : Small t) :
    Calls Tryz.prog 68 #[.agg cs.toArray] w fun e w' => e = .returned (.bool (formedT t)) ∧ Below w.heap.size w w' := by
  cases n with
  | zero => exact absurd ht (by simp [IsT])
  | succ n =>
  obtain ⟨k, x, d, ns, ks⟩ := t
  obtain ⟨ad, nd, cd, an, nn, cn, ak, nk, ck, rfl, hB, hS, hK⟩ := ht
  cases hs with
  | mk h1 h2 _ =>
  by_cases h3 : k = 3
  · subst h3
    exact own_dir x d ns ks w ad nd cd an nn cn ak nk ck hB.length hK.length hS h1
  · by_cases h4 : k = 2
    · subst h4
      exact own_link x d ns ks w ad nd cd an nn cn ak nk ck hB hS.length hK.length (Nat.le_trans hS.room.1 hS.room.2) (Nat.le_trans hK.room.1 hK.room.2)
    · exact own_file k h3 h4 x d ns ks w ad nd cd an nn cn ak nk ck hS.length hK.length (Nat.le_trans hS.room.1 hS.room.2) (Nat.le_trans hK.room.1 hK.room.2)

end Go.Proofs.YtlccdenafnekjaaGreatDoor
namespace Go.Proofs.YtlccdenafnekjaaGreatDoor
open Go.RowKit
set_option linter.unusedVariables false

/-- What Size tells. -/
def sizeV (t : T) : Value := match sizeT t with
  | some r => .tuple #[.int .i64 (r.1 : Int), .int .i64 (r.2 : Int), .int .i64 0]
  | none => .tuple #[.int .i64 0, .int .i64 0, .int .i64 3]

theorem isT_five {w : World} {n : Nat} {cs : List Value} {t : T} (h : IsT w n cs t) : cs.length = 5 := by
  cases n with
  | zero => exact absurd h (by simp [IsT])
  | succ n =>
    obtain ⟨k, x, d, ns, ks⟩ := t
    obtain ⟨ad, nd, cd, an, nn, cn, ak, nk, ck, rfl, _⟩ := h
    rfl

theorem info5 : (Tryz.prog.info? 37).map (·.size) = some 5 := by kernel_rfl

theorem infoL {cs : List Value} (h : cs.length = 5) : (Tryz.prog.info? 37).map (·.size) = some cs.toArray.size := by rw [info5, List.size_toArray, h]

set_option maxRecDepth 100000 in
set_option maxHeartbeats 8000000 in
theorem size_any (n : Nat) (cs : List Value) (t : T) (w : World) (ht : IsT w n cs t) :
    Calls Tryz.prog 106 #[.agg cs.toArray] w fun e w' => e = .returned (sizeV t) ∧ Below w.heap.size w w' := by
  have hI := Lib.hid (infoL (isT_five ht))
  have HT := Lib.hid ht
  obtain ⟨V, hV⟩ : ∃ V, V = sizeV t := ⟨_, rfl⟩
  rw [← hV]
  have HV := Lib.hid hV
  clear ht hV
  go_enter Tryz.func106, Tryz.ntmps106
  go_upto_region 2 with fail
  obtain ⟨w1, hw1⟩ : ∃ w1, w1 = (w.alloc (.cells cs.toArray 37)).alloc (.cells #[.int .i64 0, .int .i64 0] 177) := ⟨_, rfl⟩
  have sz : (w.alloc (.cells cs.toArray 37)).heap.size = w.heap.size + 1 := by simp
  have x1 : Has w1 (w.heap.size + 1) [.int .i64 0, .int .i64 0] 177 := by rw [hw1, ← sz]; exact Has.new _ [.int .i64 0, .int .i64 0] _
  have g1 : Has w1 w.heap.size cs 37 := by rw [hw1]; exact (Has.new w cs _).alloc _
  have b1 : Below w.heap.size w w1 := by rw [hw1]; exact ((Below.refl _ _).alloc (Nat.le_refl _) _).alloc (by simp) _
  rw [← hw1]
  have K := take_any w (w.heap.size + 1) (by omega) n cs t HT.out w1 0 0 0 b1 x1 (by omega) (by omega) (by omega)
  have HK := Lib.hid K
  have G1 := Lib.hid (show w1.heap[w.heap.size]? = some (.cells cs.toArray 37 (0, 0)) from g1)
  clear hw1 sz x1 g1 b1 K
  go_wp2_with (refine wpList_load_row rfl 37 _ rfl w.heap.size rfl 37 cs.toArray (0, 0) _ G1.out Tryz.underlying37 rfl hI.out ?_)
  refine HK.out.mono ?_
  rintro e w2 ⟨⟨t', b', x2, hr⟩, b2, s2, rfl⟩
  have B2 := Lib.hid b2
  have hk : sizeT t = takeT t 0 0 0 := rfl
  cases hs : takeT t 0 0 0 with
  | none =>
    have HVV : Hid (V = .tuple #[.int .i64 0, .int .i64 0, .int .i64 3]) := Lib.hid (by rw [HV.out]; unfold sizeV; rw [hk, hs])
    clear HK hr hs hk x2 b2
    simp only [Option.isSome_none]
    go_wp2_with fail
    go_ret3
    exact ⟨by rw [HVV.out]; rfl, B2.out⟩
  | some q =>
    have hq := hr q hs
    have HVV : Hid (V = .tuple #[.int .i64 (t' : Int), .int .i64 (b' : Int), .int .i64 0]) := Lib.hid (by rw [HV.out]; unfold sizeV; rw [hk, hs, hq])
    have ch0 := x2.cellAt (i := 0) rfl
    have ch1 := x2.cellAt (i := 1) rfl
    clear HK hr hs hk hq b2 x2
    simp only [Option.isSome_some]
    go_wp2_with fail
    go_quiet (fail)
    go_wp2_with fail
    go_ret3
    refine ⟨by rw [HVV.out]; rfl, ?_⟩
    exact B2.out.trans ⟨rfl, rfl, rfl, Nat.le_refl _, fun _ _ => rfl⟩

set_option maxRecDepth 100000 in
set_option maxHeartbeats 8000000 in
theorem form_any (n : Nat) (cs : List Value) (t : T) (w : World) (ht : IsT w n cs t) :
    Calls Tryz.prog 109 #[.agg cs.toArray] w fun e w' => e = .returned (.bool (sizeT t).isSome) ∧ Below w.heap.size w w' := by
  have hI := Lib.hid (infoL (isT_five ht))
  have HT := Lib.hid ht
  clear ht
  go_enter Tryz.func109, Tryz.ntmps109
  go_upto_region 1 with fail
  obtain ⟨w1, hw1⟩ : ∃ w1, w1 = w.alloc (.cells cs.toArray 37) := ⟨_, rfl⟩
  have g1 : Has w1 w.heap.size cs 37 := by rw [hw1]; exact Has.new w cs _
  have b1 : Below w.heap.size w w1 := by rw [hw1]; exact (Below.refl _ _).alloc (Nat.le_refl _) _
  rw [← hw1]
  have HK := Lib.hid (size_any n cs t w1 (IsT.later b1 _ _ _ HT.out))
  have G1 := Lib.hid (show w1.heap[w.heap.size]? = some (.cells cs.toArray 37 (0, 0)) from g1)
  have B1 := Lib.hid b1
  clear hw1 g1 b1
  go_wp2_with (refine wpList_load_row rfl 37 _ rfl w.heap.size rfl 37 cs.toArray (0, 0) _ G1.out Tryz.underlying37 rfl hI.out ?_)
  refine HK.out.mono ?_
  rintro e w2 ⟨rfl, b2⟩
  have B2 := Lib.hid (B1.out.trans (b2.mono B1.out.size))
  clear HK b2
  cases hs : sizeT t with
  | none =>
    have HV : sizeV t = .tuple #[.int .i64 0, .int .i64 0, .int .i64 3] := by unfold sizeV; rw [hs]
    rw [HV]
    have HSZ := Lib.hid hs
    clear HV hs
    go_wp2_with fail
    go_ret
    exact ⟨by rw [HSZ.out]; rfl, B2.out⟩
  | some q =>
    have HV : sizeV t = .tuple #[.int .i64 (q.1 : Int), .int .i64 (q.2 : Int), .int .i64 0] := by unfold sizeV; rw [hs]
    rw [HV]
    have HSZ := Lib.hid hs
    clear HV hs
    go_wp2_with fail
    go_ret
    exact ⟨by rw [HSZ.out]; rfl, B2.out⟩

end Go.Proofs.YtlccdenafnekjaaGreatDoor
namespace Go.Proofs.YtlccdenafnekjaaGreatDoor
open Go.RowKit
set_option linter.unusedVariables false

def cntV : Option (Nat × Nat) → Value
  | none => .tuple #[.int .i64 (-1), .int .i64 (-1)]
  | some q => .tuple #[.int .i64 (4096 - (q.1 : Int)), .int .i64 (65536 - (q.2 : Int))]

theorem cntV_none {r : Option (Nat × Nat)} (h : r = none) : cntV r = .tuple #[.int .i64 (-1), .int .i64 (-1)] := by rw [h]; rfl

theorem Small.kid {k : UInt8} {x : Bool} {d : List UInt8} {ns : List ByteArray} {ks : List T} (h : Small (.mk k x d ns ks)) (i : Nat) (hi : i < ks.length) : Small (ks.getD i default) := by
  cases h with
  | mk _ h2 _ => exact h2 i hi

set_option maxRecDepth 100000 in
set_option maxHeartbeats 20000000 in
theorem count_any : ∀ (n : Nat) (cs : List Value) (t : T) (w : World), IsT w n cs t → Small t → ∀ (dep tc bc : Nat) (N B : Int), N = 4096 - (tc : Int) → B = 65536 - (bc : Int) → tc ≤ 4096 → bc ≤ 65536 → dep ≤ 17 →
    Calls Tryz.prog 41 #[.agg cs.toArray, .int .i64 (dep : Int), .int .i64 N, .int .i64 B] w fun e w' => e = .returned (cntV (takeT t dep tc bc)) ∧ Below w.heap.size w w'
  | 0, _, _, _, ht => absurd ht (by simp [IsT])
  | n + 1, cs, .mk k x d ns ks, w, ht => by
    intro hsm dep tc bc N B hN hB0 htc hbc hdep
    have HT := Lib.hid ht
    have HSM := Lib.hid hsm
    have hI0 := Lib.hid (infoL (isT_five ht))
    obtain ⟨ad, nd, cd, an, nn, cn, ak, nk, ck, rfl, hB, hS, hK⟩ := ht
    have HK := Lib.hid hK
    have HLD := Lib.hid hB.length
    have hmost := hB.most
    have hN0 : 0 ≤ N := by omega
    have hN1 : N ≤ 4096 := by omega
    have hB1 : 0 ≤ B := by omega
    have hB2 : B ≤ 65536 := by omega
    have HNE := Lib.hid hN
    have HBE0 := Lib.hid hB0
    obtain ⟨V, hV⟩ : ∃ V, V = cntV (takeT (.mk k x d ns ks) dep tc bc) := ⟨_, rfl⟩
    rw [← hV]
    have HV := Lib.hid hV
    clear hB hS hK hN hB0 hsm hV
    go_enter Tryz.func41, Tryz.ntmps41
    go_upto_region 1 with fail
    obtain ⟨w1, hw1⟩ : ∃ w1, w1 = w.alloc (.cells #[.int .u8 (k.toNat : Int), .bool x, .slice ad nd cd, .slice an nn cn, .slice ak nk ck] 37) := ⟨_, rfl⟩
    have g1 : Has w1 w.heap.size [.int .u8 (k.toNat : Int), .bool x, .slice ad nd cd, .slice an nn cn, .slice ak nk ck] 37 := by rw [hw1]; exact Has.new w _ _
    have b1 : Below w.heap.size w w1 := by rw [hw1]; exact (Below.refl _ _).alloc (Nat.le_refl _) _
    have s1 : w1.heap.size = w.heap.size + 1 := by rw [hw1]; simp
    rw [← hw1]
    obtain ⟨g, hg⟩ : ∃ g, g = w.heap.size := ⟨_, rfl⟩
    rw [← hg] at g1 s1 b1 ⊢
    have HG := Lib.hid hg
    clear hg hw1
    have G1 := Lib.hid g1
    have B1 := Lib.hid b1
    have cg2 := g1.cellAt (i := 2) rfl
    have cg0 := g1.cellAt (i := 0) rfl
    have cg1 := g1.cellAt (i := 1) rfl
    have cg3 := g1.cellAt (i := 3) rfl
    have cg4 := g1.cellAt (i := 4) rfl
    clear g1 b1
    by_cases ht1 : tc + 1 ≤ 4096
    · have q1 : ¬ (N - 1 < 0) := by have := HNE.out; omega
      by_cases hb1 : bc + nd ≤ 65536
      · have q2 : ¬ (B - (nd : Int) < 0) := by have := HBE0.out; omega
        by_cases hd16 : dep ≤ 16
        · have q3 : ¬ (16 : Int) < (dep : Int) := by omega
          have KO := Lib.hid (own_any (n + 1) _ _ w1 (IsT.later (by rw [← HG.out]; exact B1.out) _ _ _ HT.out) HSM.out)
          go_wp2_with fail
          refine KO.out.mono ?_
          rintro e w2 ⟨rfl, b2⟩
          have G2 := Lib.hid (G1.out.below b2 (by omega))
          have B2 := Lib.hid (B1.out.trans (b2.mono (by omega)))
          have s2 := b2.size
          clear b2 KO cg0 cg1 cg2 cg3 cg4
          cases hf : formedT (.mk k x d ns ks)
          · have HR : Hid (takeT (.mk k x d ns ks) dep tc bc = none) := Lib.hid (by rw [takeT_mk, if_neg]; rintro ⟨h1, h2, h3, h4⟩; rw [hf] at h4; cases h4)
            clear hf
            go_wp2_with fail
            go_ret2
            exact ⟨by rw [HV.out, cntV_none HR.out]; rfl, by rw [← HG.out]; exact B2.out⟩
          · have HR : Hid (takeT (.mk k x d ns ks) dep tc bc = takeL ks (dep + 1) (tc + 1) (bc + nd)) := Lib.hid (by rw [takeT_mk, HLD.out, if_pos ⟨hd16, ht1, hb1, hf⟩])
            clear hf
            go_wp2_with fail
            have info5 : Hid ((Tryz.prog.info? 37).map (·.size) = some 5) := Lib.hid (by kernel_rfl)
            go_loopw [2, 3, 10] (fun vn vb vi wr => ∃ (i : Nat) (N' B' : Int), i ≤ nk ∧ vi = .int .i64 i ∧ vn = .int .i64 N' ∧ vb = .int .i64 B' ∧ N' ≤ 4096 ∧ -1 ≤ N' ∧
                ((∃ t' b' : Nat, takeL (ks.take i) (dep + 1) (tc + 1) (bc + nd) = some (t', b') ∧ N' = 4096 - (t' : Int) ∧ B' = 65536 - (b' : Int) ∧ t' ≤ 4096 ∧ b' ≤ 65536) ∨ (takeT (.mk k x d ns ks) dep tc bc = none ∧ N' = -1 ∧ B' = -1)) ∧
                Has wr g [.int .u8 (k.toNat : Int), .bool x, .slice ad nd cd, .slice an nn cn, .slice ak nk ck] 37 ∧ Below g w wr ∧ g + 1 ≤ wr.heap.size) (fun vn vb vi _ => nk - (intOf vi).toNat)
            case atStart => exact ⟨0, N - 1, B - (nd : Int), Nat.zero_le _, rfl, rfl, rfl, by omega, by omega, .inl ⟨tc + 1, bc + nd, by simp [takeL], by have := HNE.out; omega, by have := HBE0.out; omega, ht1, hb1⟩, G2.out, B2.out, by omega⟩
            case round =>
              clear G2 B2
              obtain ⟨i, N', B', hi, rfl, rfl, rfl, hNN, hNl, hst, hg, hbel, hsz⟩ := hrel
              have cg4 := hg.cellAt (i := 4) rfl
              have HG' := Lib.hid hg
              have HBE := Lib.hid hbel
              clear hg
              by_cases hlt : i < nk
              · rcases hst with ⟨t', b', hpre, hN', hB', ht', hb'⟩ | ⟨hno, rfl, rfl⟩
                · have hnn : 0 ≤ N' := by omega
                  have hbb : 0 ≤ B' := by omega
                  rcases HK.out.at_ with h0 | ⟨b, off, rfl, hb, hc⟩
                  · omega
                  obtain ⟨c0, c1, c2, c3, c4, hR, e0, e1, e2, e3, e4⟩ := hc i hlt
                  have hkl : i < ks.length := by rw [HK.out.length]; exact hlt
                  have HPRE := Lib.hid hpre
                  have HSTEP := Lib.hid (takeL_step hkl hpre)
                  have hbg : b < g := by rw [HG.out]; exact hb
                  have hrange : wr.rangeAt b (off + i * 5) [c0, c1, c2, c3, c4] := fun j v hv => by
                    rw [Nat.add_assoc]
                    match j, hv with
                    | 0, hv => cases hv; exact (hbel.cell (p := ⟨b, off + (i * 5 + 0), none⟩) hbg).trans e0
                    | 1, hv => cases hv; exact (hbel.cell (p := ⟨b, off + (i * 5 + 1), none⟩) hbg).trans e1
                    | 2, hv => cases hv; exact (hbel.cell (p := ⟨b, off + (i * 5 + 2), none⟩) hbg).trans e2
                    | 3, hv => cases hv; exact (hbel.cell (p := ⟨b, off + (i * 5 + 3), none⟩) hbg).trans e3
                    | 4, hv => cases hv; exact (hbel.cell (p := ⟨b, off + (i * 5 + 4), none⟩) hbg).trans e4
                    | j + 5, hv => simp at hv
                  have HRANGE := Lib.hid hrange
                  have hki : (i : Int) < (nk : Int) := by omega
                  have hroom := HK.out.room
                  unfold maxLen at hroom
                  have hni : (i : Int) + 1 ≤ 9223372036854775807 := by omega
                  obtain ⟨L, hL⟩ : ∃ L, L = [c0, c1, c2, c3, c4] := ⟨_, rfl⟩
                  rw [← hL] at HRANGE hR
                  have hll : Hid (L.length = 5) := Lib.hid (by rw [hL]; rfl)
                  have K5 := count_any n L (ks.getD i default) wr (IsT.later (by rw [← HG.out]; exact hbel) _ _ _ hR) (HSM.out.kid i hkl) (dep + 1) t' b' N' B' hN' hB' ht' hb' (by omega)
                  rw [show ((dep + 1 : Nat) : Int) = (dep : Int) + 1 from by omega] at K5
                  have HK5 := Lib.hid K5
                  have HLT := Lib.hid hlt
                  clear hbel hc hR e0 e1 e2 e3 e4 hrange hL K5 hpre hN' hB'
                  go_wp2_with (refine wpList_load_mid rfl 37 _ rfl b (off + i * 5) rfl L _ HRANGE.out Tryz.underlying37 rfl (by rw [info5.out, hll.out]) ?_)
                  refine HK5.out.mono ?_
                  rintro e w6 ⟨rfl, b6⟩
                  have B6 := Lib.hid b6
                  clear b6 HK5
                  cases hk : takeT (ks.getD i default) (dep + 1) t' b' with
                  | none =>
                    have HRR : Hid (takeT (.mk k x d ns ks) dep tc bc = none) := Lib.hid (by rw [HR.out]; exact takeL_none (i := i + 1) (by rw [HSTEP.out]; exact hk))
                    clear hk
                    rw [cntV_none rfl]
                    go_wp2_with fail
                    go_roundw
                    case rel => exact ⟨i + 1, -1, -1, by omega, by go_num, rfl, rfl, by omega, by omega, .inr ⟨HRR.out, rfl, rfl⟩, HG'.out.below B6.out (by omega), HBE.out.trans (B6.out.mono (by omega)), by have := B6.out.size; omega⟩
                    case measure =>
                      have := HLT.out
                      simp only [intOf]; omega
                  | some q =>
                    have hle := takeT_le _ _ _ _ _ hk
                    obtain ⟨N6, hN6⟩ : ∃ N6 : Int, N6 = 4096 - (q.1 : Int) := ⟨_, rfl⟩
                    obtain ⟨B6', hB6⟩ : ∃ B6' : Int, B6' = 65536 - (q.2 : Int) := ⟨_, rfl⟩
                    have hcv : cntV (some q) = .tuple #[.int .i64 N6, .int .i64 B6'] := by rw [hN6, hB6]; rfl
                    have HN : Hid (takeL (ks.take (i + 1)) (dep + 1) (tc + 1) (bc + nd) = some (q.1, q.2)) := Lib.hid (by rw [HSTEP.out, hk])
                    have H6 := Lib.hid hN6
                    have H7 := Lib.hid hB6
                    rw [hcv]
                    clear hk hcv hN6 hB6
                    go_wp2_with fail
                    go_roundw
                    case rel => exact ⟨i + 1, N6, B6', by omega, by go_num, rfl, rfl, by have := H6.out; omega, by have := H6.out; omega, .inl ⟨q.1, q.2, HN.out, H6.out, H7.out, hle.1, hle.2⟩, HG'.out.below B6.out (by omega), HBE.out.trans (B6.out.mono (by omega)), by have := B6.out.size; omega⟩
                    case measure =>
                      have := HLT.out
                      simp only [intOf]; omega
                · have HNO := Lib.hid hno
                  clear hno hbel
                  go_wp2_with fail
                  go_ret2
                  exact ⟨by rw [HV.out, cntV_none HNO.out]; rfl, by rw [← HG.out]; exact HBE.out⟩
              · obtain rfl : i = nk := by omega
                have HRR : Hid (V = .tuple #[.int .i64 N', .int .i64 B']) := Lib.hid (by
                  rcases hst with ⟨t', b', hpre, hN', hB', ht', hb'⟩ | ⟨hno, rfl, rfl⟩
                  · rw [List.take_of_length_le (by rw [HK.out.length]; exact Nat.le_refl _)] at hpre
                    rw [HV.out, HR.out, hpre, hN', hB']; rfl
                  · rw [HV.out, cntV_none hno])
                clear hst hbel
                go_wp2_with fail
                go_ret2
                exact ⟨by rw [HRR.out]; rfl, by rw [← HG.out]; exact HBE.out⟩
        · have q3 : (16 : Int) < (dep : Int) := by omega
          have HR : Hid (takeT (.mk k x d ns ks) dep tc bc = none) := Lib.hid (by rw [takeT_mk, if_neg]; rintro ⟨h1, h2, h3, h4⟩; omega)
          clear hd16
          go_wp2_with fail
          go_ret2
          exact ⟨by rw [HV.out, cntV_none HR.out]; rfl, by rw [← HG.out]; exact B1.out⟩
      · have q2 : B - (nd : Int) < 0 := by have := HBE0.out; omega
        have HR : Hid (takeT (.mk k x d ns ks) dep tc bc = none) := Lib.hid (by rw [takeT_mk, if_neg]; rintro ⟨h1, h2, h3, h4⟩; rw [HLD.out] at h3; omega)
        clear hb1
        go_wp2_with fail
        go_ret2
        exact ⟨by rw [HV.out, cntV_none HR.out]; rfl, by rw [← HG.out]; exact B1.out⟩
    · have q1 : N - 1 < 0 := by have := HNE.out; omega
      have HR : Hid (takeT (.mk k x d ns ks) dep tc bc = none) := Lib.hid (by rw [takeT_mk, if_neg]; rintro ⟨h1, h2, h3, h4⟩; omega)
      clear ht1
      go_wp2_with fail
      go_ret2
      exact ⟨by rw [HV.out, cntV_none HR.out]; rfl, by rw [← HG.out]; exact B1.out⟩

end Go.Proofs.YtlccdenafnekjaaGreatDoor
namespace Go.Proofs.YtlccdenafnekjaaGreatDoor
open Go.RowKit
set_option linter.unusedVariables false

/-- One byte more: the pieces that are done, the one under way. -/
def stepP (r : List (List UInt8) × List UInt8) (c : UInt8) : List (List UInt8) × List UInt8 := if c = 47 then (r.1 ++ [r.2], []) else (r.1, r.2 ++ [c])
def runP (p : List UInt8) : List (List UInt8) × List UInt8 := p.foldl stepP ([], [])

theorem pieces_ne : ∀ p : List UInt8, pieces p ≠ []
  | [] => by simp [pieces]
  | c :: t => by
    unfold pieces
    split
    · simp
    · cases h : pieces t <;> simp

theorem foldl_pieces : ∀ (p : List UInt8) (D : List (List UInt8)) (w : List UInt8), (p.foldl stepP (D, w)).1 ++ [(p.foldl stepP (D, w)).2] = D ++ (match pieces p with | [] => [w] | h :: t => (w ++ h) :: t)
  | [], D, w => by simp [pieces]
  | c :: t, D, w => by
    rw [List.foldl_cons]
    by_cases hc : c = 47
    · have e : stepP (D, w) c = (D ++ [w], []) := by unfold stepP; rw [if_pos hc]
      rw [e, foldl_pieces t]
      have ep : pieces (c :: t) = [] :: pieces t := by rw [pieces, if_pos hc]
      rw [ep]
      cases h : pieces t with
      | nil => exact absurd h (pieces_ne t)
      | cons a b => simp
    · have e : stepP (D, w) c = (D, w ++ [c]) := by unfold stepP; rw [if_neg hc]
      rw [e, foldl_pieces t]
      cases h : pieces t with
      | nil => exact absurd h (pieces_ne t)
      | cons a b =>
        have ep : pieces (c :: t) = (c :: a) :: b := by rw [pieces, if_neg hc, h]
        rw [ep]
        simp

theorem runP_pieces (p : List UInt8) : pieces p = (runP p).1 ++ [(runP p).2] := by
  unfold runP
  rw [foldl_pieces]
  cases h : pieces p with
  | nil => exact absurd h (pieces_ne p)
  | cons a b => simp

theorem runP_step (l : List UInt8) (k : Nat) (h : k < l.length) : runP (l.take (k + 1)) = stepP (runP (l.take k)) (l.getD k 0) := by
  unfold runP
  rw [List.take_succ_eq_append_getElem h, List.foldl_append, List.getD_eq_getElem?_getD, List.getElem?_eq_getElem h]
  rfl

theorem foldl_grows : ∀ (p : List UInt8) (r : List (List UInt8) × List UInt8) (x : List UInt8), x ∈ r.1 → x ∈ (p.foldl stepP r).1
  | [], _, _, h => h
  | c :: t, r, x, h => by
    rw [List.foldl_cons]
    apply foldl_grows t
    unfold stepP
    split
    · simp [h]
    · exact h

/-- What is done stays. -/
theorem mem_pieces {l : List UInt8} {k : Nat} {x : List UInt8} (h : x ∈ (runP (l.take k)).1) : x ∈ pieces l := by
  rw [runP_pieces]
  have e : runP l = (l.drop k).foldl stepP (runP (l.take k)) := by
    unfold runP
    rw [← List.foldl_append, List.take_append_drop]
  rw [e]
  simp [foldl_grows _ _ _ h]

theorem splitT_no {s : List UInt8} {x : List UInt8} (h1 : s.length ≤ 400) (h2 : s ≠ []) (hx : x ∈ pieces s) (h : tName x = false) : splitT s = ([], 4) := by
  unfold splitT
  rw [if_neg (by omega), if_neg h2, if_neg]
  rw [List.all_eq_true]
  intro hall
  have := hall x hx
  rw [h] at this
  cases this

theorem splitT_yes {s : List UInt8} {l : List ByteArray} (h1 : s.length ≤ 400) (h2 : s ≠ []) (hl : l.map (·.data.toList) = pieces s) (h : ∀ x ∈ l, tName x.data.toList = true) : splitT s = (pieces s, 0) := by
  unfold splitT
  rw [if_neg (by omega), if_neg h2, if_pos]
  rw [← hl, all_pieces, List.all_eq_true]
  exact h

theorem info_str : (Tryz.prog.info? 9).map (fun i => (i.zero, i.size, i.bytes)) = some (some (.string ByteArray.empty), 1, 16) := by kernel_rfl

theorem info_str_parts : ∃ i, Tryz.prog.info? 9 = some i ∧ i.zero = some (.string ByteArray.empty) ∧ i.size = 1 ∧ i.bytes = 16 := by
  have h := info_str
  cases hi : Tryz.prog.info? 9 with
  | none => rw [hi] at h; cases h
  | some i =>
    rw [hi] at h
    simp only [Option.map_some, Option.some.injEq, Prod.mk.injEq] at h
    exact ⟨i, rfl, h.1, h.2.1, h.2.2⟩

/-- A row of texts of the call's own, read. -/
theorem isS_of_owns {w : World} {base n : Nat} {v : Value} {l : List ByteArray} (h : w.ownsRow base 9 1 v n (l.map Value.string)) : ∃ a cap, v = .slice a n cap ∧ IsS w a n cap l ∧ ∀ x, a = some x → base ≤ x.block := by
  have hl : l.length = n := by simpa using h.1
  rcases h.2 with ⟨rfl, rfl⟩ | ⟨g, cap, cur, rfl, hb, hg, hnc, hcm, hcs, htake⟩
  · exact ⟨none, 0, rfl, ⟨hl, .inl rfl, fun _ => ⟨rfl, rfl⟩, Nat.le_refl _, Nat.zero_le _⟩, fun x hx => by cases hx⟩
  · refine ⟨_, cap, rfl, ⟨hl, .inr ⟨g, 0, rfl, (Array.getElem?_eq_some_iff.1 hg).1, fun i hi => ?_⟩, (fun h => by cases h), hnc, hcm⟩, fun x hx => by cases hx; exact hb⟩
    have h2 : w.ownsRow base 9 1 (.slice (some ⟨g, 0, none⟩) n cap) n (l.map Value.string) := h
    rw [Nat.zero_add, h2.cellAt i (by omega)]
    simp [List.getD, show i < l.length by omega]

set_option maxRecDepth 100000 in
set_option maxHeartbeats 8000000 in
theorem rsplit_any (s : ByteArray) (w : World) :
    Calls Tryz.prog 35 #[.string s] w fun e w' => SplitPost .i64 (splitT s.data.toList) w e w' := by
  have hlen : s.data.toList.length = s.size := by simp
  obtain ⟨i0, hi, hz0, hz1, hz2⟩ := info_str_parts
  by_cases h : 400 < s.size
  · have h4 : decide ((400 : Int) < (s.size : Int)) = true := by simp; omega
    have hsp : splitT s.data.toList = ([], 2) := by unfold splitT; rw [if_pos (by rw [hlen]; exact h)]
    rw [hsp]
    clear hlen hsp hi hz0 hz1 hz2
    go_enter Tryz.func35, Tryz.ntmps35
    go_wp2_with fail
    go_ret2
    exact splitPost_nil rfl (Below.refl _ _)
  have h4 : decide ((400 : Int) < (s.size : Int)) = false := by simp; omega
  by_cases h0 : s.size = 0
  · have hnil : s.data.toList = [] := List.eq_nil_of_length_eq_zero (by rw [hlen]; exact h0)
    have hs : s = ⟨#[]⟩ := bytes_ext (by rw [hnil])
    subst hs
    clear hlen h0 hnil h hi hz0 hz1 hz2
    go_enter Tryz.func35, Tryz.ntmps35
    go_wp2_with fail
    go_ret2
    exact splitPost_nil rfl (Below.refl _ _)
  have n0 : s.toList.isEmpty = false := by
    rw [ByteArray.toList_eq]
    cases h : s.data.toList with
    | nil => rw [h] at hlen; simp at hlen; omega
    | cons a t => rfl
  have hne : s.data.toList ≠ [] := fun e => by rw [e] at hlen; simp at hlen; omega
  obtain ⟨SP, hSP⟩ : ∃ SP, SP = splitT s.data.toList := ⟨_, rfl⟩
  rw [← hSP]
  have HSP := Lib.hid hSP
  have HNE := Lib.hid hne
  have HLEN := Lib.hid hlen
  have hle : s.size ≤ 400 := by omega
  have HLE := Lib.hid hle
  have H400 : Hid (s.data.toList.length ≤ 400) := Lib.hid (by rw [hlen]; exact hle)
  clear hlen hne hSP h
  go_enter Tryz.func35, Tryz.ntmps35
  go_wp2_with fail
  go_loopw [4, 5, 6] (fun v4 v5 v6 wr => ∃ (k : Nat) (L : List ByteArray) (word : ByteArray), k ≤ s.size + 1 ∧ v6 = .int .i64 k ∧ v5 = .string word ∧ wr.ownsRow w.heap.size 9 1 v4 L.length (L.map Value.string) ∧ Below w.heap.size w wr ∧ (∀ x ∈ L, tName x.data.toList = true) ∧ L.length ≤ k ∧ word.size ≤ k ∧
    ((k ≤ s.size ∧ runP (s.data.toList.take k) = (L.map (·.data.toList), word.data.toList)) ∨ (k = s.size + 1 ∧ L.map (·.data.toList) = pieces s.data.toList))) (fun _ _ v6 _ => s.size + 1 - (intOf v6).toNat)
  case atStart => exact ⟨0, [], ⟨#[]⟩, Nat.zero_le _, rfl, rfl, World.ownsRow_nil _ _ _ _, Below.refl _ _, (fun x hx => by cases hx), Nat.zero_le _, Nat.zero_le _, .inl ⟨Nat.zero_le _, rfl⟩⟩
  case round =>
    obtain ⟨k, L, word, hk, rfl, rfl, hown, hbel, hall, hL, hW, hst⟩ := hrel
    rcases hst with ⟨hks, hrun⟩ | ⟨rfl, hpc⟩
    · have hki : (k : Int) ≤ (s.size : Int) := by omega
      have HOWN := Lib.hid hown
      have HBEL := Lib.hid hbel
      have HALL := Lib.hid hall
      have HRUN := Lib.hid hrun
      by_cases hdo : k < s.size ∧ s.data.toList.getD k 0 ≠ 47
      · obtain ⟨hlt, hc47⟩ := hdo
        have hget := str_get s k hlt
        have hkl : k < s.data.toList.length := by rw [HLEN.out]; exact hlt
        have hstep := runP_step s.data.toList k hkl
        obtain ⟨c, hc⟩ : ∃ c, c = s.data.toList.getD k 0 := ⟨_, rfl⟩
        rw [← hc] at hget hc47 hstep
        have hstep2 : runP (s.data.toList.take (k + 1)) = (L.map (·.data.toList), word.data.toList ++ [c]) := by
          rw [hstep, hrun]; unfold stepP; rw [if_neg hc47]
        have hext : (word ++ s.extract k (k + 1)).data.toList = word.data.toList ++ [c] := by
          rw [ByteArray.data_append, Array.toList_append, ByteArray.data_extract, Array.toList_extract, List.extract_eq_take_drop, hc]
          congr 1
          rw [List.getD_eq_getElem?_getD, List.getElem?_eq_getElem hkl]
          simp [List.take_one, List.head?_drop, List.getElem?_eq_getElem hkl]
        have HST : Hid (runP (s.data.toList.take (k + 1)) = (L.map (·.data.toList), (word ++ s.extract k (k + 1)).data.toList)) := Lib.hid (by rw [hext]; exact hstep2)
        have c47 : ((c.toNat : Int) == 47) = false := by
          have : c.toNat ≠ 47 := fun h => hc47 (UInt8.toNat_inj.1 h)
          rw [beq_eq_false_iff_ne]; omega
        have c47' : ¬ (c.toNat : Int) = 47 := by simpa using c47
        have hsz : (s.extract k (k + 1)).size = 1 := by rw [ByteArray.size_extract]; omega
        have hcat : ¬ 9223372036854775807 < word.size + 1 := by omega
        have hlti : (k : Int) < (s.size : Int) := by omega
        have hlti2 : (k : Int) + 1 ≤ (s.size : Int) := by omega
        have HSZ := Lib.hid hsz
        clear hown hbel hall hrun hc hc47 hstep hstep2 hext hkl hi hz0 hz1 hz2
        go_wp2_with fail
        go_roundw
        case rel => exact ⟨k + 1, L, _, by omega, by go_num, rfl, HOWN.out, HBEL.out, HALL.out, by omega, by rw [ByteArray.size_append, HSZ.out]; omega, .inl ⟨by omega, HST.out⟩⟩
        case measure => simp [intOf]; omega
      · by_cases hlt : k < s.size
        · have hc47 : s.data.toList.getD k 0 = 47 := by
            by_cases e : s.data.toList.getD k 0 = 47
            · exact e
            · exact absurd ⟨hlt, e⟩ hdo
          have hget := str_get s k hlt
          have hkl : k < s.data.toList.length := by rw [HLEN.out]; exact hlt
          have hstep := runP_step s.data.toList k hkl
          rw [hc47] at hget hstep
          have hstep2 : runP (s.data.toList.take (k + 1)) = (L.map (·.data.toList) ++ [word.data.toList], []) := by
            rw [hstep, hrun]; unfold stepP; rw [if_pos rfl]
          have hlti : (k : Int) < (s.size : Int) := by omega
          have HNO : Hid (tName word.data.toList = false → splitT s.data.toList = ([], 4)) := Lib.hid (fun h => splitT_no H400.out HNE.out (mem_pieces (k := k + 1) (by rw [hstep2]; simp)) h)
          have HNEXT : Hid ((k + 1 ≤ s.size ∧ runP (s.data.toList.take (k + 1)) = ((L ++ [word]).map (·.data.toList), (⟨#[]⟩ : ByteArray).data.toList)) ∨ (k + 1 = s.size + 1 ∧ (L ++ [word]).map (·.data.toList) = pieces s.data.toList)) := Lib.hid (.inl ⟨by omega, by rw [hstep2, List.map_append]; rfl⟩)
          clear hown hbel hall hrun hc47 hstep hstep2 hkl hdo
          cases hn : tName word.data.toList
          · have HN := Lib.hid hn
            have HR := Lib.hid (HNO.out hn)
            clear hn hi hz0 hz1 hz2
            go_wp2_with fail
            refine (rname_any _ _ (by omega)).mono ?_
            rintro e w' ⟨rfl, rfl⟩
            rw [HN.out]
            go_wp2_with fail
            go_ret2
            rw [HSP.out, HR.out]
            exact splitPost_nil rfl HBEL.out
          · have HN := Lib.hid hn
            have hown2 := HOWN.out
            have hbs := HBEL.out.size
            clear hn
            go_wp2_with fail
            refine (rname_any _ _ (by omega)).mono ?_
            rintro e w' ⟨rfl, rfl⟩
            rw [HN.out]
            go_wp2_with (at_builtin; go_must (refine wpList_append_lies _ rfl (.tmp 38) (.tmp 40) 34 rfl w.heap.size 9 i0 (.string ByteArray.empty) 1 16 Tryz.underlying34 hi hz0 hz1 hz2 rfl (by omega) _ L.length (L.map Value.string) rfl (hown2.alloc _) ⟨wr.heap.size, 0, none⟩ 1 1 [.string word] rfl rfl ?c1 ?c2 ?c3 ?c4 ?c5 ?c6 _ rfl ?c7))
            case c1 =>
              intro j u hj
              match j, hj with
              | 0, hj => simp at hj; subst hj; simp [Addr.add]
            case c2 => intro u hu; simp at hu; subst hu; rfl
            case c3 => omega
            case c4 => unfold maxLen; omega
            case c5 => omega
            case c6 => simp; omega
            intro g cap2 w2 hown3 hgrow2 hlo2 hhi2
            have HO3 : Hid (w2.ownsRow w.heap.size 9 1 (.slice (some ⟨g, 0, none⟩) (L.length + 1) cap2) (L ++ [word]).length ((L ++ [word]).map Value.string)) := Lib.hid (by simpa using hown3)
            have HB3 : Hid (Below w.heap.size w w2) := Lib.hid ((HBEL.out.alloc hbs _).grown hgrow2 (by simp; omega) (fun k hk => (hown2.lt k hk).1))
            clear hown3 hgrow2 hown2
            go_wp2_with fail
            go_roundw
            case rel =>
              refine ⟨k + 1, L ++ [word], ⟨#[]⟩, by omega, by go_num, rfl, HO3.out, HB3.out, ?_, by simp; omega, Nat.zero_le _, HNEXT.out⟩
              intro x hx
              rcases List.mem_append.1 hx with h | h
              · exact HALL.out x h
              · simp at h; subst h; exact HN.out
            case measure => simp [intOf]; omega
        · obtain rfl : k = s.size := by omega
          have hfull : s.data.toList.take s.size = s.data.toList := List.take_of_length_le (by rw [HLEN.out]; exact Nat.le_refl _)
          rw [hfull] at hrun
          have hpc : pieces s.data.toList = L.map (·.data.toList) ++ [word.data.toList] := by rw [runP_pieces, hrun]
          have hlti : ¬ (s.size : Int) < (s.size : Int) := by omega
          have HNO : Hid (tName word.data.toList = false → splitT s.data.toList = ([], 4)) := Lib.hid (fun h => splitT_no H400.out HNE.out (by rw [hpc]; simp) h)
          have HNEXT : Hid ((s.size + 1 ≤ s.size ∧ runP (s.data.toList.take (s.size + 1)) = ((L ++ [word]).map (·.data.toList), (⟨#[]⟩ : ByteArray).data.toList)) ∨ (s.size + 1 = s.size + 1 ∧ (L ++ [word]).map (·.data.toList) = pieces s.data.toList)) := Lib.hid (.inr ⟨rfl, by rw [hpc, List.map_append]; rfl⟩)
          clear hown hbel hall hrun hpc hfull hdo
          cases hn : tName word.data.toList
          · have HN := Lib.hid hn
            have HR := Lib.hid (HNO.out hn)
            clear hn hi hz0 hz1 hz2
            go_wp2_with fail
            refine (rname_any _ _ (by omega)).mono ?_
            rintro e w' ⟨rfl, rfl⟩
            rw [HN.out]
            go_wp2_with fail
            go_ret2
            rw [HSP.out, HR.out]
            exact splitPost_nil rfl HBEL.out
          · have HN := Lib.hid hn
            have hown2 := HOWN.out
            have hbs := HBEL.out.size
            clear hn
            go_wp2_with fail
            refine (rname_any _ _ (by omega)).mono ?_
            rintro e w' ⟨rfl, rfl⟩
            rw [HN.out]
            go_wp2_with (at_builtin; go_must (refine wpList_append_lies _ rfl (.tmp 38) (.tmp 40) 34 rfl w.heap.size 9 i0 (.string ByteArray.empty) 1 16 Tryz.underlying34 hi hz0 hz1 hz2 rfl (by omega) _ L.length (L.map Value.string) rfl (hown2.alloc _) ⟨wr.heap.size, 0, none⟩ 1 1 [.string word] rfl rfl ?e1 ?e2 ?e3 ?e4 ?e5 ?e6 _ rfl ?e7))
            case e1 =>
              intro j u hj
              match j, hj with
              | 0, hj => simp at hj; subst hj; simp [Addr.add]
            case e2 => intro u hu; simp at hu; subst hu; rfl
            case e3 => omega
            case e4 => unfold maxLen; omega
            case e5 => omega
            case e6 => simp; omega
            intro g cap2 w2 hown3 hgrow2 hlo2 hhi2
            have HO3 : Hid (w2.ownsRow w.heap.size 9 1 (.slice (some ⟨g, 0, none⟩) (L.length + 1) cap2) (L ++ [word]).length ((L ++ [word]).map Value.string)) := Lib.hid (by simpa using hown3)
            have HB3 : Hid (Below w.heap.size w w2) := Lib.hid ((HBEL.out.alloc hbs _).grown hgrow2 (by simp; omega) (fun k hk => (hown2.lt k hk).1))
            clear hown3 hgrow2 hown2
            go_wp2_with fail
            go_roundw
            case rel =>
              refine ⟨s.size + 1, L ++ [word], ⟨#[]⟩, by omega, by go_num, rfl, HO3.out, HB3.out, ?_, by simp; omega, Nat.zero_le _, HNEXT.out.elim (fun h => .inl h) (fun h => .inr ⟨rfl, h.2⟩)⟩
              intro x hx
              rcases List.mem_append.1 hx with h | h
              · exact HALL.out x h
              · simp at h; subst h; exact HN.out
            case measure => simp [intOf] <;> omega
    · obtain ⟨a, cap, rfl, hI, hge⟩ := isS_of_owns hown
      have HGE := Lib.hid hge
      clear hge
      have hki : ¬ ((s.size + 1 : Nat) : Int) ≤ (s.size : Int) := by omega
      have HR := Lib.hid (splitT_yes H400.out HNE.out hpc hall)
      have HI := Lib.hid hI
      have HPC := Lib.hid hpc
      have HBEL := Lib.hid hbel
      clear hown hall hI hpc hbel hi hz0 hz1 hz2
      go_wp2_with fail
      go_ret2
      rw [HSP.out, HR.out]
      exact ⟨⟨_, _, _, L, HI.out, HPC.out, rfl, HGE.out⟩, HBEL.out⟩

end Go.Proofs.YtlccdenafnekjaaGreatDoor
namespace Go.Proofs.YtlccdenafnekjaaGreatDoor
open Go.RowKit
set_option linter.unusedVariables false

/-- 'append' of what came in, nil and empty lists too, onto nil or onto a row of the call's own. -/
theorem wpList_append_src {P : Program} {w : World} {ops : Array Oper} {rest : List Oper} {o : Oper} {a : Act} {Q : Exit → Act → World → Prop} (hgd : o.guard = none) (s x : Operand) (t : TypeId)
    (ho : o.op = .call { callee := .builtin .append, args := #[s, x], argTypes := #[t, t] })
    (base : Nat) (e : TypeId) (i : TypeInfo) (z : Value) (size bytes : Nat) (ht : P.underlying t = some (.slice e)) (hi : P.info? e = some i) (hz : i.zero = some z)
    (hsize : i.size = size) (hby : i.bytes = bytes) (hzs : z.cells.size = size) (hsz : 0 < size)
    (v : Value) (n : Nat) (xs : List Value) (hs : a.eval s = v) (hown : w.ownsRow base e size v n xs)
    (ao : Option Addr) (m c : Nat) (news : List Value) (hx : a.eval x = .slice ao m c) (hl : news.length = m * size) (hnone : ao = none → m = 0 ∧ c = 0)
    (hnews : ∀ ad, ao = some ad → ∀ j u, news[j]? = some u → w.cell? (ad.add j) = some u) (h1 : ∀ u ∈ news, u.oneCell' = true)
    (h63 : n + m ≤ maxLen) (hbytes : (n + m) * bytes ≤ 140737488355328) (hbase : base ≤ w.heap.size)
    (h : ∀ v' w', w'.ownsRow base e size v' (n + m) (xs ++ news) → w.grownBy w' v.ownBlock → wpList P ops Q rest (a.put o.dst v') w') : wpList P ops Q (o :: rest) a w := by
  cases ao with
  | none =>
    obtain ⟨rfl, rfl⟩ := hnone rfl
    obtain rfl : news = [] := List.eq_nil_of_length_eq_zero (by simpa using hl)
    refine wpList_append_own_none hgd s x t ho base e i size ht hi v n xs hs hown hx ?_
    exact h v w (by simpa using hown) (World.grownBy.refl w _)
  | some ad => exact wpList_append_own w hgd s x t ho base e i z size bytes ht hi hz hsize hby hzs hsz v n xs hs hown ad m c news hx hl (hnews ad rfl) h1 h63 hbytes hbase (fun v' w' h2 h3 _ => h v' w' h2 h3)

theorem info_u8 : (Tryz.prog.info? 5).map (fun i => (i.zero, i.size, i.bytes)) = some (some (.int .u8 0), 1, 1) := by kernel_rfl
theorem info_u8_parts : ∃ i, Tryz.prog.info? 5 = some i ∧ i.zero = some (.int .u8 0) ∧ i.size = 1 ∧ i.bytes = 1 := by
  have h := info_u8
  cases hi : Tryz.prog.info? 5 with
  | none => rw [hi] at h; cases h
  | some i =>
    rw [hi] at h
    simp only [Option.map_some, Option.some.injEq, Prod.mk.injEq] at h
    exact ⟨i, rfl, h.1, h.2.1, h.2.2⟩
theorem info_tree : (Tryz.prog.info? 37).map (fun i => (i.zero, i.size, i.bytes)) = some (some (.agg #[.int .u8 0, .bool false, .slice none 0 0, .slice none 0 0, .slice none 0 0]), 5, 80) := by kernel_rfl
theorem info_tree_parts : ∃ i, Tryz.prog.info? 37 = some i ∧ i.zero = some (.agg #[.int .u8 0, .bool false, .slice none 0 0, .slice none 0 0, .slice none 0 0]) ∧ i.size = 5 ∧ i.bytes = 80 := by
  have h := info_tree
  cases hi : Tryz.prog.info? 37 with
  | none => rw [hi] at h; cases h
  | some i =>
    rw [hi] at h
    simp only [Option.map_some, Option.some.injEq, Prod.mk.injEq] at h
    exact ⟨i, rfl, h.1, h.2.1, h.2.2⟩

theorem bv_one (l : List UInt8) : ∀ u ∈ l.map bv, u.oneCell' = true := fun u hu => by
  obtain ⟨_, _, rfl⟩ := List.mem_map.1 hu; rfl
theorem str_one (l : List ByteArray) : ∀ u ∈ l.map Value.string, u.oneCell' = true := fun u hu => by
  obtain ⟨_, _, rfl⟩ := List.mem_map.1 hu; rfl

theorem srcB {w : World} {a : Option Addr} {n c : Nat} {l : List UInt8} (h : IsB w a n c l) : ∀ ad, a = some ad → ∀ j u, (l.map bv)[j]? = some u → w.cell? (ad.add j) = some u := by
  intro ad had j u hj
  rw [List.getElem?_map] at hj
  have hlt : j < l.length := by
    rcases Nat.lt_or_ge j l.length with h' | h'
    · exact h'
    · rw [List.getElem?_eq_none h'] at hj; cases hj
  have hln := h.length
  rcases h.at_ with h0 | ⟨b, off, he, hb, hc⟩
  · omega
  · rw [had] at he; cases he
    rw [Addr.add_mid, hc j (by omega)]
    rw [List.getElem?_eq_getElem hlt] at hj
    simp [bv] at hj
    rw [← hj]
    simp [List.getD, List.getElem?_eq_getElem hlt]

theorem srcS {w : World} {a : Option Addr} {n c : Nat} {l : List ByteArray} (h : IsS w a n c l) : ∀ ad, a = some ad → ∀ j u, (l.map Value.string)[j]? = some u → w.cell? (ad.add j) = some u := by
  intro ad had j u hj
  rw [List.getElem?_map] at hj
  have hlt : j < l.length := by
    rcases Nat.lt_or_ge j l.length with h' | h'
    · exact h'
    · rw [List.getElem?_eq_none h'] at hj; cases hj
  have hln := h.length
  rcases h.at_ with h0 | ⟨b, off, he, hb, hc⟩
  · omega
  · rw [had] at he; cases he
    rw [Addr.add_mid, hc j (by omega)]
    rw [List.getElem?_eq_getElem hlt] at hj
    simp at hj
    rw [← hj]
    simp [List.getD, List.getElem?_eq_getElem hlt]

/-- The cells of a row of trees that came in. -/
theorem srcK {w w0 : World} {m : Nat} {a : Option Addr} {n c : Nat} {ks : List T} (h : IsK (IsT w0 m) w a n c ks) :
    ∃ L : List Value, L.length = n * 5 ∧ (∀ i, i < ks.length → IsT w0 m (five L i) (ks.getD i default)) ∧ (∀ ad, a = some ad → ∀ j u, L[j]? = some u → w.cell? (ad.add j) = some u) ∧ ∀ u ∈ L, u.oneCell' = true := by
  have hln := h.length
  rcases h.at_ with h0 | ⟨b, off, rfl, hb, hc⟩
  · exact ⟨[], by simp [h0], fun i hi => by omega, fun ad _ j u hj => by simp at hj, fun u hu => by simp at hu⟩
  · obtain ⟨L, hL⟩ : ∃ L, L = (List.range (n * 5)).map (fun j => (w.cell? ⟨b, off + j, none⟩).getD undef) := ⟨_, rfl⟩
    have hlen : L.length = n * 5 := by rw [hL]; simp
    have hget : ∀ j, j < n * 5 → L[j]? = some ((w.cell? ⟨b, off + j, none⟩).getD undef) := fun j hj => by rw [hL]; simp [hj]
    have hfive : ∀ i, i < n → ∃ c0 c1 c2 c3 c4, five L i = [c0, c1, c2, c3, c4] ∧ IsT w0 m [c0, c1, c2, c3, c4] (ks.getD i default) ∧ w.cell? ⟨b, off + i * 5, none⟩ = some c0 ∧ w.cell? ⟨b, off + (i * 5 + 1), none⟩ = some c1 ∧ w.cell? ⟨b, off + (i * 5 + 2), none⟩ = some c2 ∧ w.cell? ⟨b, off + (i * 5 + 3), none⟩ = some c3 ∧ w.cell? ⟨b, off + (i * 5 + 4), none⟩ = some c4 := fun i hi => by
      obtain ⟨c0, c1, c2, c3, c4, hT, h0, h1, h2, h3, h4⟩ := hc i hi
      refine ⟨c0, c1, c2, c3, c4, ?_, hT, h0, h1, h2, h3, h4⟩
      apply List.ext_getElem?
      intro q
      by_cases hq : q < 5
      · rw [five_get q hq, hget _ (by omega)]
        match q, hq with
        | 0, _ => rw [Nat.add_zero, h0]; rfl
        | 1, _ => rw [h1]; rfl
        | 2, _ => rw [h2]; rfl
        | 3, _ => rw [h3]; rfl
        | 4, _ => rw [h4]; rfl
      · unfold five
        rw [List.getElem?_eq_none (by rw [List.length_take]; omega), List.getElem?_eq_none (by simp; omega)]
    have hsome : ∀ j, j < n * 5 → ∃ u, w.cell? ⟨b, off + j, none⟩ = some u ∧ u.oneCell' = true := fun j hj => by
      obtain ⟨c0, c1, c2, c3, c4, _, hT, h0, h1, h2, h3, h4⟩ := hfive (j / 5) (by omega)
      have h1c := isT_one hT
      simp only [List.all_toArray, List.all_cons, List.all_nil, Bool.and_true, Bool.and_eq_true] at h1c
      have hm : j % 5 < 5 := Nat.mod_lt _ (by omega)
      have hj' : j = j / 5 * 5 + j % 5 := by omega
      generalize j / 5 = i at hj' h0 h1 h2 h3 h4
      generalize j % 5 = q at hj' hm
      subst hj'
      match q, hm with
      | 0, _ => exact ⟨c0, h0, h1c.1⟩
      | 1, _ => exact ⟨c1, h1, h1c.2.1⟩
      | 2, _ => exact ⟨c2, h2, h1c.2.2.1⟩
      | 3, _ => exact ⟨c3, h3, h1c.2.2.2.1⟩
      | 4, _ => exact ⟨c4, h4, h1c.2.2.2.2⟩
    refine ⟨L, hlen, fun i hi => ?_, fun ad had j u hj => ?_, fun u hu => ?_⟩
    · obtain ⟨c0, c1, c2, c3, c4, he, hT, _⟩ := hfive i (by omega)
      rw [he]; exact hT
    · cases had
      have hlt : j < n * 5 := by
        have := (List.getElem?_eq_some_iff.1 hj).1
        omega
      obtain ⟨u', hu', _⟩ := hsome j hlt
      rw [hget j hlt, hu'] at hj
      rw [Addr.add_mid, hu']
      simpa using hj
    · obtain ⟨j, hj⟩ := List.getElem?_of_mem hu
      have hlt : j < n * 5 := by
        have := (List.getElem?_eq_some_iff.1 hj).1
        omega
      obtain ⟨u', hu', h1⟩ := hsome j hlt
      rw [hget j hlt, hu'] at hj
      simp at hj
      rw [← hj]; exact h1

def OwnPost (e : TypeId) (size : Nat) (n : Nat) (xs : List Value) (w : World) (en : Ending) (w' : World) : Prop := ∃ v, en = .returned v ∧ w'.ownsRow w.heap.size e size v n xs ∧ Below w.heap.size w w'

set_option maxRecDepth 100000 in
set_option maxHeartbeats 2000000 in
theorem ownB_any (a : Option Addr) (n cap : Nat) (l : List UInt8) (w : World) (hl : IsB w a n cap l) :
    Calls Tryz.prog 114 #[.slice a n cap] w (OwnPost 5 1 n (l.map bv) w) := by
  obtain ⟨i0, hi, hz0, hz1, hz2⟩ := info_u8_parts
  have hr := hl.room
  have hm := hl.most
  have HL := Lib.hid hl
  have HI := Lib.hid hi
  have HZ0 := Lib.hid hz0
  have HZ1 := Lib.hid hz1
  have HZ2 := Lib.hid hz2
  clear hl hi hz0 hz1 hz2
  go_enter Tryz.func114, Tryz.ntmps114
  go_wp2_with (at_builtin; refine wpList_append_src rfl _ _ 33 rfl w.heap.size 5 i0 (.int .u8 0) 1 1 Tryz.underlying33 HI.out HZ0.out HZ1.out HZ2.out rfl (by omega) (.slice none 0 0) 0 [] rfl (World.ownsRow_nil _ _ _ _) a n cap (l.map bv) rfl (by simp [HL.out.length]) HL.out.nil (srcB HL.out) (bv_one l) (by omega) (by omega) (Nat.le_refl _) ?_)
  intro v' w1 hown hgr
  have HO := Lib.hid hown
  have HG := Lib.hid hgr
  clear hown hgr
  go_wp2_with fail
  go_ret
  exact ⟨v', rfl, by have := HO.out; simpa using this, (Below.refl _ _).grown HG.out (Nat.le_refl _) (fun q hq => by cases hq)⟩

set_option maxRecDepth 100000 in
set_option maxHeartbeats 2000000 in
theorem ownS_any (a : Option Addr) (n cap : Nat) (l : List ByteArray) (w : World) (hl : IsS w a n cap l) (hm : n * 16 ≤ 140737488355328) :
    Calls Tryz.prog 115 #[.slice a n cap] w (OwnPost 9 1 n (l.map Value.string) w) := by
  obtain ⟨i0, hi, hz0, hz1, hz2⟩ := info_str_parts
  have hr := hl.room
  have HL := Lib.hid hl
  have HI := Lib.hid hi
  have HZ0 := Lib.hid hz0
  have HZ1 := Lib.hid hz1
  have HZ2 := Lib.hid hz2
  clear hl hi hz0 hz1 hz2
  go_enter Tryz.func115, Tryz.ntmps115
  go_wp2_with (at_builtin; refine wpList_append_src rfl _ _ 34 rfl w.heap.size 9 i0 (.string ByteArray.empty) 1 16 Tryz.underlying34 HI.out HZ0.out HZ1.out HZ2.out rfl (by omega) (.slice none 0 0) 0 [] rfl (World.ownsRow_nil _ _ _ _) a n cap (l.map Value.string) rfl (by simp [HL.out.length]) HL.out.nil (srcS HL.out) (str_one l) (by omega) (by omega) (Nat.le_refl _) ?_)
  intro v' w1 hown hgr
  have HO := Lib.hid hown
  have HG := Lib.hid hgr
  clear hown hgr
  go_wp2_with fail
  go_ret
  exact ⟨v', rfl, by have := HO.out; simpa using this, (Below.refl _ _).grown HG.out (Nat.le_refl _) (fun q hq => by cases hq)⟩

def OwnKPost (w0 : World) (m : Nat) (ks : List T) (w : World) (en : Ending) (w' : World) : Prop := ∃ v L, en = .returned v ∧ w'.ownsRow w.heap.size 37 5 v ks.length L ∧ (∀ i, i < ks.length → IsT w0 m (five L i) (ks.getD i default)) ∧ Below w.heap.size w w'

set_option maxRecDepth 100000 in
set_option maxHeartbeats 2000000 in
theorem ownK_any (w0 : World) (m : Nat) (a : Option Addr) (n cap : Nat) (ks : List T) (w : World) (hl : IsK (IsT w0 m) w a n cap ks) (hm : n * 80 ≤ 140737488355328) :
    Calls Tryz.prog 116 #[.slice a n cap] w (OwnKPost w0 m ks w) := by
  obtain ⟨i0, hi, hz0, hz1, hz2⟩ := info_tree_parts
  have hr := hl.room
  have hn := hl.length
  obtain ⟨L, hL, hF, hS, hO⟩ := srcK hl
  have HL := Lib.hid hl.nil
  have HN := Lib.hid hn
  have HI := Lib.hid hi
  have HZ0 := Lib.hid hz0
  have HZ1 := Lib.hid hz1
  have HZ2 := Lib.hid hz2
  have HLL := Lib.hid hL
  have HF := Lib.hid hF
  have HS := Lib.hid hS
  have HO := Lib.hid hO
  clear hl hi hz0 hz1 hz2 hL hF hS hO hn
  go_enter Tryz.func116, Tryz.ntmps116
  go_wp2_with (at_builtin; refine wpList_append_src rfl _ _ 35 rfl w.heap.size 37 i0 (.agg #[.int .u8 0, .bool false, .slice none 0 0, .slice none 0 0, .slice none 0 0]) 5 80 Tryz.underlying35 HI.out HZ0.out HZ1.out HZ2.out rfl (by omega) (.slice none 0 0) 0 [] rfl (World.ownsRow_nil _ _ _ _) a n cap L rfl HLL.out HL.out HS.out HO.out (by omega) (by omega) (Nat.le_refl _) ?_)
  intro v' w1 hown hgr
  have HO' := Lib.hid hown
  have HG := Lib.hid hgr
  clear hown hgr
  go_wp2_with fail
  go_ret
  exact ⟨v', L, rfl, by have := HO'.out; rw [HN.out]; simpa using this, HF.out, (Below.refl _ _).grown HG.out (Nat.le_refl _) (fun q hq => by cases hq)⟩

end Go.Proofs.YtlccdenafnekjaaGreatDoor
namespace Go.Proofs.YtlccdenafnekjaaGreatDoor
open Go.RowKit
set_option linter.unusedVariables false

theorem run_append_zero {P : Program} {w : World} (t ty e : TypeId) (i : TypeInfo) (ht : P.underlying t = some (.slice e)) (hi : P.info? e = some i) (x : Option Addr) (c : Nat) :
    (Builtin.append_ #[t, t] ty #[.slice none 0 0, .slice x 0 c]).run P w = .ok (.slice none 0 0) w := by
  cases x <;> simp [Builtin.append_, run_underlying ht, sizeOf, typeInfo, hi, Builtin.lenOf, Builtin.firstCells, loadCells, loadCellsFrom]
theorem wpList_append_zero {P : Program} {w : World} {ops : Array Oper} {rest : List Oper} {o : Oper} {a : Act} {Q : Exit → Act → World → Prop} (hgd : o.guard = none) (s x : Operand) (t : TypeId)
    (ho : o.op = .call { callee := .builtin .append, args := #[s, x], argTypes := #[t, t] })
    (e : TypeId) (i : TypeInfo) (ht : P.underlying t = some (.slice e)) (hi : P.info? e = some i)
    (hs : a.eval s = .slice none 0 0) (xa : Option Addr) (c : Nat) (hx : a.eval x = .slice xa 0 c)
    (h : wpList P ops Q rest (a.put o.dst (.slice none 0 0)) w) : wpList P ops Q (o :: rest) a w := by
  refine wpList_plain hgd fun K hK => ?_
  have hrun := run_append_zero (P := P) (w := w) t o.type e i ht hi xa c
  unfold Oper.wp
  simp [execOp, ho, resolve, invoke, builtin, hs, hx, hrun, Result.andThen]
  exact hK _ _ h

set_option maxRecDepth 100000 in
set_option maxHeartbeats 2000000 in
theorem ownK_zero (a : Option Addr) (cap : Nat) (w : World) : Calls Tryz.prog 116 #[.slice a 0 cap] w fun e w' => e = .returned (.slice none 0 0) ∧ w = w' := by
  obtain ⟨i0, hi, _⟩ := info_tree_parts
  have HI := Lib.hid hi
  clear hi
  go_enter Tryz.func116, Tryz.ntmps116
  go_wp2_with (at_builtin; refine wpList_append_zero rfl _ _ 35 rfl 37 i0 Tryz.underlying35 HI.out rfl a cap rfl ?_)
  go_wp2_with fail
  go_ret
  exact ⟨rfl, rfl⟩

theorem eownK_any (w0 : World) (m : Nat) (a : Option Addr) (n cap : Nat) (ks : List T) (w : World) (hl : IsK (IsT w0 m) w a n cap ks) (hm : n * 80 ≤ 140737488355328) :
    Calls Tryz.prog 116 #[.slice a n cap] w fun e w' => OwnKPost w0 m ks w e w' ∧ (ks = [] → e = .returned (.slice none 0 0)) := by
  by_cases h : ks = []
  · have hn : n = 0 := by rw [← hl.length, h]; rfl
    subst hn
    refine (ownK_zero a cap w).mono ?_
    rintro e w' ⟨rfl, rfl⟩
    exact ⟨⟨_, [], rfl, by rw [h]; exact World.ownsRow_nil _ _ _ _, fun i hi => by rw [h] at hi; simp at hi, Below.refl _ _⟩, fun _ => rfl⟩
  · refine (ownK_any w0 m a n cap ks w hl hm).mono ?_
    rintro e w' hp
    exact ⟨hp, fun h' => absurd h' h⟩

end Go.Proofs.YtlccdenafnekjaaGreatDoor
namespace Go.Proofs.YtlccdenafnekjaaGreatDoor
open Go.RowKit
set_option linter.unusedVariables false

/-- How many cells a block has. -/
def bsize (w : World) (b : Nat) : Nat := match w.heap[b]? with
  | some (.cells X _ _) => X.size
  | _ => 0
theorem bsize_lt {w : World} {b : Nat} (h : bsize w b ≠ 0) : b < w.heap.size := by
  unfold bsize at h
  cases e : w.heap[b]? with
  | none => rw [e] at h; exact absurd rfl h
  | some o => exact (Array.getElem?_eq_some_iff.1 e).1
theorem bsize_but {w w' : World} {q b : Nat} (hb : But w.heap.size q w w') (hne : b ≠ q) (h : bsize w b ≠ 0) : bsize w' b = bsize w b := by
  unfold bsize
  rw [hb.block b (bsize_lt h) hne]
theorem bsize_below {w w' : World} {b : Nat} (hb : Below w.heap.size w w') (h : bsize w b ≠ 0) : bsize w' b = bsize w b := by
  unfold bsize
  rw [hb.block b (bsize_lt h)]
theorem bsize_set {w : World} {q o b : Nat} {v : Value} {L : List Value} {t : TypeId} (h : Has w q L t) : bsize (w.setCell ⟨q, o, none⟩ v) b = bsize w b := by
  by_cases e : b = q
  · subst e
    have h1 : (w.setCell ⟨b, o, none⟩ v).heap[b]? = some (.cells (L.set o v).toArray t (0, 0)) := h.set o v
    have h2 : w.heap[b]? = some (.cells L.toArray t (0, 0)) := h
    unfold bsize
    rw [h1, h2]
    simp
  · unfold bsize
    rw [heap_setCell_other w ⟨q, o, none⟩ b v e]
theorem bsize_has {w : World} {q : Nat} {L : List Value} {t : TypeId} (h : Has w q L t) : bsize w q = L.length := by
  have h2 : w.heap[q]? = some (.cells L.toArray t (0, 0)) := h
  unfold bsize
  rw [h2]; simp

/-- Five cells that read as a tree, all of whose lists lie in rows of their own from block B on; where its kids lie G says. -/
def EFlat (w : World) (B : Nat) (G : Nat → Option (List T)) (O : Nat → Option (Nat × Nat)) (s : Nat × Nat) (cs : List Value) : T → Prop
  | .mk k x d ns ks => ∃ vd vn ak nk ck, cs = [.int .u8 (k.toNat : Int), .bool x, vd, vn, .slice ak nk ck] ∧
      w.ownsRow B 5 1 vd d.length (d.map bv) ∧ w.ownsRow B 9 1 vn ns.length (ns.map Value.string) ∧
      nk = ks.length ∧ nk ≤ ck ∧ ck ≤ maxLen ∧ ((ks = [] ∧ ak = none ∧ ck = 0) ∨ ∃ b, ak = some ⟨b, 0, none⟩ ∧ ks ≠ [] ∧ G b = some ks ∧ O b = some s ∧ ck * 5 = bsize w b) ∧ (∀ g, vn.ownBlock = some g → O g = some s)

theorem EFlat.but {w w' : World} {B q : Nat} {G G' : Nat → Option (List T)} {O O' : Nat → Option (Nat × Nat)} {cs : List Value} {t : T} {s : Nat × Nat} (h : EFlat w B G O s cs t) (hb : But w.heap.size q w w') (hq : Far w q) (hG : ∀ b ks, G b = some ks → G' b = some ks) (hO : ∀ b s, O b = some s → O' b = some s) (hs : ∀ ks, G q = some ks → bsize w' q = bsize w q) : EFlat w' B G' O' s cs t := by
  obtain ⟨k, x, d, ns, ks⟩ := t
  obtain ⟨vd, vn, ak, nk, ck, hcs, hd, hn, h1, h2, h3, h4, h5⟩ := h
  exact ⟨vd, vn, ak, nk, ck, hcs, owns_but hd hb hq.1, owns_but hn hb hq.2, h1, h2, h3, h4.imp id fun ⟨b, e1, e2, e3, e4, e5⟩ => ⟨b, e1, e2, hG _ _ e3, hO _ _ e4, by
    by_cases e : b = q
    · subst e; rw [hs _ e3]; exact e5
    · have hz : bsize w b ≠ 0 := by have := List.length_pos_iff.2 e2; omega
      rw [bsize_but hb e hz]; exact e5⟩, fun g hg => hO _ _ (h5 g hg)⟩
theorem EFlat.flat {w : World} {B : Nat} {G : Nat → Option (List T)} {O : Nat → Option (Nat × Nat)} {s : Nat × Nat} {cs : List Value} {t : T} (h : EFlat w B G O s cs t) : Flat w B G cs t := by
  obtain ⟨k, x, d, ns, ks⟩ := t
  obtain ⟨vd, vn, ak, nk, ck, hcs, hd, hn, h1, h2, h3, h4, h5⟩ := h
  exact ⟨vd, vn, ak, nk, ck, hcs, hd, hn, h1, h2, h3, h4.imp (fun ⟨a, _, c⟩ => ⟨a, fun _ => c⟩) fun ⟨b, e1, e2, e3, _, _⟩ => ⟨b, e1, e2, e3⟩⟩

/-- Each of these trees is in memory of its own, in block b. -/
def EDone (w : World) (B : Nat) (G : Nat → Option (List T)) (O : Nat → Option (Nat × Nat)) (b : Nat) (ks : List T) : Prop := ∃ L, Has w b L 37 ∧ ∀ i, i < ks.length → EFlat w B G O (b, i) (five L i) (ks.getD i default)

theorem EDone.but {w w' : World} {B b q : Nat} {G G' : Nat → Option (List T)} {O O' : Nat → Option (Nat × Nat)} {ks : List T} (h : EDone w B G O b ks) (hb : But w.heap.size q w w') (hq : Far w q) (hne : b ≠ q) (hG : ∀ b ks, G b = some ks → G' b = some ks) (hO : ∀ b s, O b = some s → O' b = some s) (hs : ∀ ks, G q = some ks → bsize w' q = bsize w q) : EDone w' B G' O' b ks := by
  obtain ⟨L, hL, hF⟩ := h
  exact ⟨L, hL.but hb hL.lt hne, fun i hi => (hF i hi).but hb hq hG hO hs⟩

/-- A copy on its way: S are the rows that must still get lists of their own (block, trees, capacity), cur the one that is gone through. -/
structure ECpy (w0 w : World) (G : Nat → Option (List T)) (O : Nat → Option (Nat × Nat)) (S : List (Nat × List T × Nat)) (cur : Option Nat) : Prop where
  below : Below w0.heap.size w0 w
  fresh : ∀ b ks, G b = some ks → w0.heap.size ≤ b ∧ b < w.heap.size
  done : ∀ b ks, G b = some ks → (∀ p ∈ S, p.1 ≠ b) → cur ≠ some b → EDone w w0.heap.size G O b ks
  pend : ∀ p ∈ S, G p.1 = some p.2.1 ∧ Pend w0 w p.1 p.2.1 ∧ p.2.1 ≠ [] ∧ cur ≠ some p.1 ∧ p.2.1.length ≤ p.2.2 ∧ p.2.2 ≤ maxLen
  nodup : (S.map (·.1)).Nodup
  ofresh : ∀ g s, O g = some s → w0.heap.size ≤ g ∧ g < w.heap.size ∧ s.1 < g

/-- A block that is none of these is written. -/
theorem ECpy.but {w0 w w' : World} {G : Nat → Option (List T)} {O : Nat → Option (Nat × Nat)} {S : List (Nat × List T × Nat)} {cur : Option Nat} {q : Nat} (h : ECpy w0 w G O S cur) (hb : But w.heap.size q w w') (hq : Far w q) (hB : w0.heap.size ≤ q) (hne : ∀ ks, G q = some ks → cur = some q) (hs : ∀ ks, G q = some ks → bsize w' q = bsize w q) : ECpy w0 w' G O S cur := by
  have hsz := h.below.size
  refine ⟨h.below.trans ((hb.mono hsz).below hB), fun b ks hg => ⟨(h.fresh b ks hg).1, Nat.lt_of_lt_of_le (h.fresh b ks hg).2 hb.size⟩, fun b ks hg hS hc => ?_, fun p hp => ?_, h.nodup, fun g s hg => ⟨(h.ofresh g s hg).1, Nat.lt_of_lt_of_le (h.ofresh g s hg).2.1 hb.size, (h.ofresh g s hg).2.2⟩⟩
  · exact (h.done b ks hg hS hc).but hb hq (fun e => hc (by rw [e]; exact hne ks (e ▸ hg))) (fun _ _ h => h) (fun _ _ h => h) hs
  · obtain ⟨h1, h2, h3, h4, h5, h6⟩ := h.pend p hp
    exact ⟨h1, h2.but hb (fun e => h4 (by rw [e]; exact hne _ (e ▸ h1))), h3, h4, h5, h6⟩

theorem ECpy.later {w0 w w' : World} {G : Nat → Option (List T)} {O : Nat → Option (Nat × Nat)} {S : List (Nat × List T × Nat)} {cur : Option Nat} (h : ECpy w0 w G O S cur) (hb : Below w.heap.size w w') : ECpy w0 w' G O S cur :=
  h.but (q := w.heap.size) (But.of_below hb) (far_new w) h.below.size (fun ks hg => by have := (h.fresh _ ks hg).2; omega) (fun ks hg => by have := (h.fresh _ ks hg).2; omega)

/-- A new row is to be gone through, too. -/
theorem ECpy.push {w0 w : World} {G : Nat → Option (List T)} {O : Nat → Option (Nat × Nat)} {S : List (Nat × List T × Nat)} {q b c : Nat} {ks : List T} (h : ECpy w0 w G O S (some q)) (hP : Pend w0 w b ks) (hnew : G b = none) (h0 : w0.heap.size ≤ b) (hks : ks ≠ []) (hbq : b ≠ q) (hc : ks.length ≤ c) (hm : c ≤ maxLen) {s : Nat × Nat} (hs : s.1 < b) (honew : O b = none) :
    ECpy w0 w (fun x => if x = b then some ks else G x) (fun x => if x = b then some s else O x) (S ++ [(b, ks, c)]) (some q) := by
  have hlt : b < w.heap.size := by obtain ⟨L, hL, _⟩ := hP; exact hL.lt
  have hS : ∀ p ∈ S, p.1 ≠ b := fun p hp e => by have := (h.pend p hp).1; rw [e, hnew] at this; cases this
  have hG : ∀ b' ks', G b' = some ks' → (fun x => if x = b then some ks else G x) b' = some ks' := fun b' ks' hg => by
    by_cases e : b' = b
    · rw [e, hnew] at hg; cases hg
    · simpa [e] using hg
  have hO : ∀ b' s', O b' = some s' → (fun x => if x = b then some s else O x) b' = some s' := fun b' s' hg => by
    by_cases e : b' = b
    · rw [e, honew] at hg; cases hg
    · simpa [e] using hg
  refine ⟨h.below, fun b' ks' hg => ?_, fun b' ks' hg hS' hc' => ?_, fun p hp => ?_, ?_, fun g s' hg => ?_⟩
  · by_cases e : b' = b
    · subst e; exact ⟨h0, hlt⟩
    · exact h.fresh b' ks' (by simpa [e] using hg)
  · have e : b' ≠ b := fun e => hS' (b, ks, c) (by simp) e.symm
    obtain ⟨L, hL, hF⟩ := h.done b' ks' (by simpa [e] using hg) (fun p hp => hS' p (by simp [hp])) hc'
    exact ⟨L, hL, fun i hi => (hF i hi).but (But.refl _ w.heap.size _) (far_new w) hG hO (fun _ _ => rfl)⟩
  · rcases List.mem_append.1 hp with hp | hp
    · obtain ⟨h1, h2, h3, h4, h5, h6⟩ := h.pend p hp
      exact ⟨hG _ _ h1, h2, h3, h4, h5, h6⟩
    · simp only [List.mem_cons, List.not_mem_nil, or_false] at hp
      subst hp
      exact ⟨by simp, hP, hks, fun e => hbq (Option.some.inj e).symm, hc, hm⟩
  · rw [List.map_append, List.nodup_append]
    refine ⟨h.nodup, by simp, fun a ha b' hb' => ?_⟩
    obtain ⟨p, hp, rfl⟩ := List.mem_map.1 ha
    simp at hb'
    subst hb'
    exact hS p hp
  · by_cases e : g = b
    · subst e
      simp at hg
      subst hg
      exact ⟨h0, hlt, hs⟩
    · exact h.ofresh g s' (by simpa [e] using hg)

/-- A row has an owner. -/
def extO (O : Nat → Option (Nat × Nat)) (v : Value) (s : Nat × Nat) : Nat → Option (Nat × Nat) := fun x => if v.ownBlock = some x then some s else O x
theorem extO_same {O : Nat → Option (Nat × Nat)} {v : Value} {s : Nat × Nat} {g : Nat} (h : v.ownBlock = some g) : extO O v s g = some s := by unfold extO; rw [if_pos h]
theorem extO_old {O : Nat → Option (Nat × Nat)} {v : Value} {s : Nat × Nat} (hn : ∀ g, v.ownBlock = some g → O g = none) : ∀ b' s', O b' = some s' → extO O v s b' = some s' := fun b' s' hg => by
  unfold extO
  by_cases e : v.ownBlock = some b'
  · rw [hn b' e] at hg; cases hg
  · rw [if_neg e]; exact hg
theorem ECpy.named {w0 w : World} {G : Nat → Option (List T)} {O : Nat → Option (Nat × Nat)} {S : List (Nat × List T × Nat)} {cur : Option Nat} (h : ECpy w0 w G O S cur) (v : Value) {s : Nat × Nat} (hv : ∀ g, v.ownBlock = some g → s.1 < g ∧ O g = none ∧ w0.heap.size ≤ g ∧ g < w.heap.size) :
    ECpy w0 w G (extO O v s) S cur := by
  have hO := extO_old (O := O) (v := v) (s := s) (fun g hg => (hv g hg).2.1)
  refine ⟨h.below, h.fresh, fun b' ks' hg hS' hc' => ?_, h.pend, h.nodup, fun g s' hg => ?_⟩
  · obtain ⟨L, hL, hF⟩ := h.done b' ks' hg hS' hc'
    exact ⟨L, hL, fun i hi => (hF i hi).but (But.refl _ w.heap.size _) (far_new w) (fun _ _ h => h) hO (fun _ _ => rfl)⟩
  · unfold extO at hg
    by_cases e : v.ownBlock = some g
    · rw [if_pos e] at hg
      cases hg
      exact ⟨(hv g e).2.2.1, (hv g e).2.2.2, (hv g e).1⟩
    · rw [if_neg e] at hg
      exact h.ofresh g s' hg

/-- The last row is gone through now. -/
theorem ECpy.pop {w0 w : World} {G : Nat → Option (List T)} {O : Nat → Option (Nat × Nat)} {S : List (Nat × List T × Nat)} {b c : Nat} {ks : List T} (h : ECpy w0 w G O (S ++ [(b, ks, c)]) none) : ECpy w0 w G O S (some b) ∧ Pend w0 w b ks ∧ G b = some ks ∧ ks ≠ [] ∧ ks.length ≤ c ∧ c ≤ maxLen := by
  have hp := h.pend (b, ks, c) (by simp)
  have hnd := h.nodup
  rw [List.map_append, List.nodup_append] at hnd
  have hS : ∀ p ∈ S, p.1 ≠ b := fun p hp' => hnd.2.2 p.1 (List.mem_map_of_mem hp') b (by simp)
  refine ⟨⟨h.below, h.fresh, fun b' ks' hg hS' hc' => h.done b' ks' hg (fun p hp' => ?_) (by simp), fun p hp' => ?_, hnd.1, h.ofresh⟩, hp.2.1, hp.1, hp.2.2.1, hp.2.2.2.2⟩
  · rcases List.mem_append.1 hp' with hp' | hp'
    · exact hS' p hp'
    · simp only [List.mem_cons, List.not_mem_nil, or_false] at hp'
      subst hp'
      exact fun e => hc' (by rw [← e])
  · obtain ⟨h1, h2, h3, h4, h5⟩ := h.pend p (by simp [hp'])
    exact ⟨h1, h2, h3, fun e => hS p hp' (Option.some.inj e).symm, h5⟩

/-- The row that was gone through has lists of its own. -/
theorem ECpy.finish {w0 w : World} {G : Nat → Option (List T)} {O : Nat → Option (Nat × Nat)} {S : List (Nat × List T × Nat)} {b : Nat} {ks : List T} (h : ECpy w0 w G O S (some b)) (hg : G b = some ks) (hd : EDone w w0.heap.size G O b ks) : ECpy w0 w G O S none := by
  refine ⟨h.below, h.fresh, fun b' ks' hg' hS' hc' => ?_, fun p hp => ?_, h.nodup, h.ofresh⟩
  · by_cases e : b' = b
    · subst e; rw [hg] at hg'; cases hg'; exact hd
    · exact h.done b' ks' hg' hS' (fun e' => e (Option.some.inj e').symm)
  · obtain ⟨h1, h2, h3, h4, h5⟩ := h.pend p hp
    exact ⟨h1, h2, h3, by simp, h5⟩

/-- A tree that is all in memory of its own, from block B on. -/
def EClosed (w : World) (B : Nat) (G : Nat → Option (List T)) (O : Nat → Option (Nat × Nat)) (s : Nat × Nat) (cs : List Value) (t : T) : Prop := (∀ b ks, G b = some ks → B ≤ b ∧ EDone w B G O b ks) ∧ EFlat w B G O s cs t ∧ (∀ g s, O g = some s → B ≤ g ∧ s.1 < g)
theorem EDone.done {w : World} {B b : Nat} {G : Nat → Option (List T)} {O : Nat → Option (Nat × Nat)} {ks : List T} (h : EDone w B G O b ks) : Done w B G b ks := by
  obtain ⟨L, hL, hF⟩ := h
  exact ⟨L, hL, fun i hi => (hF i hi).flat⟩
theorem EClosed.closed {w : World} {B : Nat} {G : Nat → Option (List T)} {O : Nat → Option (Nat × Nat)} {s : Nat × Nat} {cs : List Value} {t : T} (h : EClosed w B G O s cs t) : Closed w B G cs t := ⟨fun b ks hg => ⟨(h.1 b ks hg).1, (h.1 b ks hg).2.done⟩, h.2.1.flat⟩
theorem ECpy.eclosed {w0 w : World} {G : Nat → Option (List T)} {O : Nat → Option (Nat × Nat)} {b : Nat} {t : T} (h : ECpy w0 w G O [] none) (hg : G b = some [t]) : ∃ L, Has w b L 37 ∧ EClosed w w0.heap.size G O (b, 0) (five L 0) t := by
  have hd := fun b ks hg => h.done b ks hg (by simp) (by simp)
  obtain ⟨L, hL, hF⟩ := hd b [t] hg
  exact ⟨L, hL, fun b ks hg => ⟨(h.fresh b ks hg).1, hd b ks hg⟩, hF 0 (by simp), fun g s hg => ⟨(h.ofresh g s hg).1, (h.ofresh g s hg).2.2⟩⟩


end Go.Proofs.YtlccdenafnekjaaGreatDoor
