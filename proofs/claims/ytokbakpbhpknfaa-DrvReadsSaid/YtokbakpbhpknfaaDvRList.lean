/-
  The reference's list of texts. Conditions: it has at most 1000 texts, each of at most 10^6 bytes.
-/
import Derived.Test.YtokbakpbhpknfaaDvListed
namespace Go.Proofs.Ytokbakpbhpknfaa
open Go.RowKit
set_option linter.unusedVariables false

/-- What is written of a list's beginning. -/
def lM (l : List ByteArray) (i : Nat) : List UInt8 := 91 :: joinD ((lsts (l.take i)).map dquote)
theorem lM_len (l : List ByteArray) (i : Nat) (hn : l.length ≤ 1000) (hs : ∀ s ∈ l, s.size ≤ 1000000) : (lM l i).length ≤ 10000000001 := by
  have := joinQ_len (l.take i) (by rw [List.length_take]; omega) (fun s hs' => hs s (List.mem_of_mem_take hs'))
  unfold lM; simp only [List.length_cons]; omega
theorem lM_first (l : List ByteArray) (x : ByteArray) (ht : l.take 1 = [x]) : bs (lM l 0) ++ bs (dquote x.data.toList) = bs (lM l 1) := by
  unfold lM
  rw [ht]
  apply ByteArray.ext; apply Array.toList_inj.1
  simp [bs, lsts, joinD]
theorem lM_step (l : List ByteArray) (i : Nat) (x : ByteArray) (hi : 0 < i) (hl : i < l.length) (ht : l.take (i + 1) = l.take i ++ [x]) : (bs (lM l i) ++ ⟨#[44]⟩) ++ bs (dquote x.data.toList) = bs (lM l (i + 1)) := by
  unfold lM
  have hne : (lsts (l.take i)).map dquote ≠ [] := by
    intro h
    have := congrArg List.length h
    simp [lsts] at this
    rcases this with h | h
    · omega
    · rw [h] at hl; simp at hl
  rw [ht, show lsts (l.take i ++ [x]) = lsts (l.take i) ++ [x.data.toList] by simp [lsts], List.map_append, show [x.data.toList].map dquote = [dquote x.data.toList] from rfl, joinD_snoc _ hne]
  apply ByteArray.ext; apply Array.toList_inj.1
  simp [bs]
theorem lM_end (l : List ByteArray) : bs (lM l l.length) ++ ⟨#[93]⟩ = bs (dlist (lsts l)) := by
  unfold lM
  rw [List.take_of_length_le (Nat.le_refl _)]
  apply ByteArray.ext; apply Array.toList_inj.1
  simp [bs, dlist]
theorem bs_size (l : List UInt8) : (bs l).size = l.length := by show l.toArray.size = _; simp

set_option maxRecDepth 100000 in
set_option maxHeartbeats 16000000 in
theorem rlist_any (a : Option Addr) (n cap : Nat) (l : List ByteArray) (w : World) (hS : IsS w a n cap l) (hn : n ≤ 1000) (hs : ∀ s ∈ l, s.size ≤ 1000000) :
    Calls Try.prog 25 #[.slice a n cap] w fun e w' => e = .returned (.string (bs (dlist (lsts l)))) ∧ Below w.heap.size w w' := by
  have HS := Lib.hid hS
  have HSZ := Lib.hid hs
  have hln := hS.length
  have HLL := Lib.hid (fun i => lM_len l i (by rw [hln]; exact hn) hs)
  clear hS hs
  obtain ⟨B, hB⟩ : ∃ B, B = w.heap.size := ⟨_, rfl⟩
  rw [← hB]
  have HB := Lib.hid hB
  have HLN := Lib.hid hln
  have h44 : (⟨#[44]⟩ : ByteArray).size = 1 := rfl
  have h93 : (⟨#[93]⟩ : ByteArray).size = 1 := rfl
  clear hB hln
  go_enter Try.func25, Try.ntmps25
  go_wp2_with fail
  go_loopg [3, 4] n (fun gk v3 v4 wr => ∃ (i : Nat) (S : ByteArray), gk = n - i ∧ i ≤ n ∧ v4 = .int .i64 (i : Int) ∧ v3 = .string S ∧ Hid (S = bs (lM l i)) ∧ Below B w wr)
  case atStart => exact ⟨0, _, rfl, Nat.zero_le _, rfl, rfl, Lib.hid rfl, Below.refl _ _⟩
  case round =>
    obtain ⟨i, S, rfl, hin, rfl, rfl, HSE, hb⟩ := hrel
    have HBB := Lib.hid hb
    have hBs : B ≤ wr.heap.size := by have := hb.size; have := HB.out; omega
    have hSs : S.size ≤ 10000000001 := by rw [HSE.out, bs_size]; exact HLL.out i
    clear hb
    by_cases hlt : i < n
    · have hlt' : (i : Int) < (n : Int) := by omega
      have hwr : IntKind.i64.wrap ((i : Int) + 1) = ((i + 1 : Nat) : Int) := by rw [IntKind.wrap_i64]; omega
      obtain ⟨b, off, rfl, hbl, hc⟩ : ∃ b off, a = some ⟨b, off, none⟩ ∧ b < w.heap.size ∧ ∀ i, i < n → w.cell? ⟨b, off + i, none⟩ = some (.string (l.getD i ⟨#[]⟩)) := by
        rcases HS.out.at_ with h | h
        · omega
        · exact h
      obtain ⟨x, hx⟩ : ∃ x, x = l.getD i ⟨#[]⟩ := ⟨_, rfl⟩
      have hl : i < l.length := by rw [HLN.out]; exact hlt
      have hxe : x = l[i] := by rw [hx, List.getD_eq_getElem?_getD, List.getElem?_eq_getElem hl]; rfl
      have hx6 : x.size ≤ 1000000 := HSZ.out x (by rw [hxe]; exact List.getElem_mem hl)
      have hxs : x.size ≤ 1000000000 := by omega
      have HT : Hid (l.take (i + 1) = l.take i ++ [x]) := Lib.hid (by rw [List.take_succ_eq_append_getElem hl, hxe])
      have hcell : wr.cell? ⟨b, off + i, none⟩ = some (.string x) := by rw [hx]; exact ((HBB.out.mono (by rw [HB.out]; exact Nat.le_refl _)).cell (p := ⟨b, off + i, none⟩) hbl).trans (hc i hlt)
      obtain ⟨Y, hY⟩ : ∃ Y, Y = bs (dquote x.data.toList) := ⟨_, rfl⟩
      have hYs : Y.size ≤ 2000002 := by
        rw [hY, bs_size]
        have := dquote_len x.data.toList
        have e : x.data.toList.length = x.size := by simp
        omega
      have hq : Calls Try.prog 24 #[.string x] wr fun e w' => e = .returned (.string Y) ∧ Below wr.heap.size wr w' := by rw [hY]; exact rquote_any x wr hxs
      have HY := Lib.hid hY
      have HQ := Lib.hid hq
      have HL := Lib.hid hl
      clear hx hxe hc hY hq hl hxs hx6
      by_cases h0 : i = 0
      · subst h0
        have hcell0 : wr.cell? ⟨b, off, none⟩ = some (.string x) := by simpa using hcell
        have HE : Hid (S ++ Y = bs (lM l 1)) := Lib.hid (by rw [HSE.out, HY.out]; exact lM_first l x (by have := HT.out; simpa using this))
        go_wp2_with fail
        refine HQ.out.mono ?_
        rintro e w6 ⟨rfl, b6⟩
        have B6 : Hid (Below B w w6) := Lib.hid (HBB.out.trans (b6.mono hBs))
        clear b6 HQ hcell hcell0
        go_wp2_with fail
        go_roundg (n - 1)
        case rel => exact ⟨1, S ++ Y, rfl, by omega, rfl, rfl, HE, B6.out⟩
        case measure => omega
      · have hpos : (i : Int) > 0 := by omega
        have hpos' : (0 : Int) < (i : Int) := by omega
        have HE : Hid ((S ++ ⟨#[44]⟩) ++ Y = bs (lM l (i + 1))) := Lib.hid (by rw [HSE.out, HY.out]; exact lM_step l i x (by omega) HL.out HT.out)
        have hS2 : (S ++ (⟨#[44]⟩ : ByteArray)).size = S.size + 1 := by rw [ByteArray.size_append]; rfl
        go_wp2_with fail
        refine HQ.out.mono ?_
        rintro e w6 ⟨rfl, b6⟩
        have B6 : Hid (Below B w w6) := Lib.hid (HBB.out.trans (b6.mono hBs))
        clear b6 HQ hcell
        go_wp2_with fail
        go_roundg (n - (i + 1))
        case rel => exact ⟨i + 1, _, rfl, by omega, rfl, rfl, HE, B6.out⟩
        case measure => omega
    · obtain rfl : i = n := by omega
      go_wp2_with fail
      go_ret
      refine ⟨?_, HBB.out⟩
      have h := lM_end l
      rw [HLN.out, ← HSE.out] at h
      rw [← h]; rfl
end Go.Proofs.Ytokbakpbhpknfaa
