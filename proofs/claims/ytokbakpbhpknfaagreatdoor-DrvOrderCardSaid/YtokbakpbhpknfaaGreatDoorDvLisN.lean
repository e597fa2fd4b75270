/-
  A list of texts, written. Conditions: it has at most 1000 texts, each of at most 10^6 bytes.
-/
import Derived.Test.YtokbakpbhpknfaaGreatDoorDvQuoN
namespace Go.Proofs.YtokbakpbhpknfaaGreatDoor
open Go.RowKit
set_option linter.unusedVariables false

theorem joinD_inter : ∀ l : List (List UInt8), [44].intercalate l = joinD l
  | [] => rfl
  | [a] => by simp [List.intercalate, joinD]
  | a :: b :: r => by
    have ih := joinD_inter (b :: r)
    rw [joinD_cons a (by simp), ← ih]
    simp [List.intercalate]
theorem joinD_len (K : Nat) : ∀ l : List (List UInt8), (∀ a ∈ l, a.length ≤ K) → (joinD l).length ≤ l.length * (K + 1)
  | [], _ => by simp [joinD]
  | [a], h => by have := h a (by simp); simp only [joinD, List.length_cons, List.length_nil]; omega
  | a :: b :: r, h => by
    have ih := joinD_len K (b :: r) (fun x hx => h x (by simp [hx]))
    have := h a (by simp)
    rw [joinD_cons a (by simp), List.length_append, List.length_cons]
    simp only [List.length_cons, Nat.add_mul, Nat.one_mul] at *
    omega
/-- A text of a list, as it is written. -/
def qv (s : ByteArray) : ByteArray := bs (dquote s.data.toList)
def lsts (l : List ByteArray) : List (List UInt8) := l.map (·.data.toList)
theorem joinQ_len (l : List ByteArray) (hn : l.length ≤ 1000) (hs : ∀ s ∈ l, s.size ≤ 1000000) : (joinD ((lsts l).map dquote)).length ≤ 10000000000 := by
  have h := joinD_len 2000002 ((lsts l).map dquote) (fun a ha => by
    obtain ⟨b, hb, rfl⟩ := List.mem_map.1 ha
    obtain ⟨s, hs', rfl⟩ := List.mem_map.1 hb
    have := dquote_len s.data.toList
    have := hs s hs'
    have e : s.data.toList.length = s.size := by simp
    omega)
  have hl : (lsts l).length = l.length := by simp [lsts]
  simp only [List.length_map] at h
  rw [hl] at h
  have : l.length * (2000002 + 1) ≤ 1000 * (2000002 + 1) := Nat.mul_le_mul_right _ hn
  omega
theorem dlist_app (l : List (List UInt8)) : ((⟨#[91]⟩ : ByteArray) ++ ⟨(joinD (l.map dquote)).toArray⟩) ++ ⟨#[93]⟩ = bs (dlist l) := by
  apply ByteArray.ext; apply Array.toList_inj.1
  simp [bs, dlist]

set_option maxRecDepth 100000 in
set_option maxHeartbeats 16000000 in
theorem listed_any (a : Option Addr) (n cap : Nat) (l : List ByteArray) (w : World) (hS : IsS w a n cap l) (hn : n ≤ 1000) (hs : ∀ s ∈ l, s.size ≤ 1000000) :
    Calls Tryz.prog 48 #[.slice a n cap] w fun e w' => e = .returned (.string (bs (dlist (lsts l)))) ∧ Below w.heap.size w w' := by
  obtain ⟨i0, hi, hz0, hz1, hz2⟩ := info_str_parts
  have HI := Lib.hid hi
  have HZ0 := Lib.hid hz0
  have HZ1 := Lib.hid hz1
  have HZ2 := Lib.hid hz2
  clear hi hz0 hz1 hz2
  have hJ := joinQ_len l (by rw [hS.length]; exact hn) hs
  have HS := Lib.hid hS
  have HSZ := Lib.hid hs
  have hln := hS.length
  have HJ := Lib.hid hJ
  clear hS hs hJ
  obtain ⟨B, hB⟩ : ∃ B, B = w.heap.size := ⟨_, rfl⟩
  rw [← hB]
  have HB := Lib.hid hB
  have HLN := Lib.hid hln
  clear hB hln
  go_enter Tryz.func48, Tryz.ntmps48
  go_wp2_with fail
  go_loopg [3, 5, 8] n (fun gk v3 v5 v8 wr => ∃ i : Nat, gk = n - i ∧ i ≤ n ∧ v8 = .int .i64 (i : Int) ∧ wr.ownsRow B 9 1 v3 i ((l.take i).map fun s => Value.string (qv s)) ∧ Below B w wr)
  case atStart => exact ⟨0, rfl, Nat.zero_le _, rfl, World.ownsRow_nil _ _ _ _, Below.refl _ _⟩
  case round =>
    obtain ⟨i, rfl, hin, rfl, how, hb⟩ := hrel
    obtain ⟨va, vc, rfl⟩ := row_form how
    have HO := Lib.hid how
    have HBB := Lib.hid hb
    have hBs : B ≤ wr.heap.size := by have := hb.size; have := HB.out; omega
    clear how hb
    by_cases hlt : i < n
    · have hlt' : (i : Int) < (n : Int) := by omega
      have hwr : IntKind.i64.wrap ((i : Int) + 1) = ((i + 1 : Nat) : Int) := by rw [IntKind.wrap_i64]; omega
      obtain ⟨b, off, rfl, hbl, hc⟩ : ∃ b off, a = some ⟨b, off, none⟩ ∧ b < w.heap.size ∧ ∀ i, i < n → w.cell? ⟨b, off + i, none⟩ = some (.string (l.getD i ⟨#[]⟩)) := by
        rcases HS.out.at_ with h | h
        · omega
        · exact h
      obtain ⟨x, hx⟩ : ∃ x, x = l.getD i ⟨#[]⟩ := ⟨_, rfl⟩
      have hl : i < l.length := by rw [HLN.out]; exact hlt
      have hxe : x = l[i] := by rw [hx, List.getD_eq_getElem?_getD, List.getElem?_eq_getElem hl]; rfl
      have hxs : x.size ≤ 1000000000 := by have := HSZ.out x (by rw [hxe]; exact List.getElem_mem hl); omega
      have HT : Hid (l.take (i + 1) = l.take i ++ [x]) := Lib.hid (by rw [List.take_succ_eq_append_getElem hl, hxe])
      have hcell : wr.cell? ⟨b, off + i, none⟩ = some (.string x) := by rw [hx]; exact ((HBB.out.mono (by rw [HB.out]; exact Nat.le_refl _)).cell (p := ⟨b, off + i, none⟩) hbl).trans (hc i hlt)
      clear hx hxe hc
      go_upto_region 5 with fail
      go_wp2_with fail
      refine (quoted_any x _ hxs).mono ?_
      rintro e w1 ⟨rfl, b1⟩
      have HQ1 : Hid (bs (dquote x.data.toList) = qv x) := Lib.hid rfl
      rw [HQ1.out]
      obtain ⟨y, hy⟩ : ∃ y, y = qv x := ⟨_, rfl⟩
      rw [← hy]
      have HY := Lib.hid hy
      have HO1 : Hid (w1.ownsRow B 9 1 (.slice va i vc) i ((l.take i).map fun s => Value.string (qv s))) := Lib.hid (HO.out.kept (row := none) ⟨b1.os, b1.tape, b1.output, b1.size, fun k hk _ => b1.block k hk⟩ (by
        cases hv : (Value.slice va i vc).ownBlock with
        | none => exact .inl rfl
        | some g => exact .inr (by simp)))
      have B1 : Hid (Below B w w1) := Lib.hid (HBB.out.trans (b1.mono hBs))
      have hBs1 : B ≤ w1.heap.size := Nat.le_trans hBs b1.size
      clear b1 HO HBB hBs hcell hy
      go_wp2_with (at_builtin; go_must (refine wpList_append_lies _ rfl (.tmp 12) (.tmp 15) 22 rfl B 9 i0 (.string ByteArray.empty) 1 16 Tryz.underlying22 HI.out HZ0.out HZ1.out HZ2.out rfl (by omega) _ i ((l.take i).map fun s => Value.string (qv s)) rfl (HO1.out.alloc _) ⟨w1.heap.size, 0, none⟩ 1 1 [.string y] rfl rfl ?c1 ?c2 ?c3 ?c4 ?c5 ?c6 _ rfl ?c7))
      case c1 => intro j u hj; rw [Addr.add_mid]; exact (Has.new w1 [.string y] _).cellAt (by rw [Nat.zero_add]; exact hj)
      case c2 => intro u hu; simp at hu; subst hu; rfl
      case c3 => omega
      case c4 => unfold maxLen; omega
      case c5 => omega
      case c6 => simp; omega
      intro g cap2 w5 hown3 hgrow2 hlo2 hhi2
      have B5 : Hid (Below B w w5) := Lib.hid ((B1.out.alloc hBs1 _).grown hgrow2 (by simp; omega) (fun k hk => (HO1.out.lt k hk).1))
      have HO5 : Hid (w5.ownsRow B 9 1 (.slice (some ⟨g, 0, none⟩) (i + 1) cap2) (i + 1) ((l.take (i + 1)).map fun s => Value.string (qv s))) := Lib.hid (by
        rw [HT.out, List.map_append]; show w5.ownsRow B _ 1 _ _ (_ ++ [Value.string (qv x)]); rw [← HY.out]; first | exact hown3 | (simpa using hown3))
      clear hown3 hgrow2 hlo2 hhi2
      go_wp2_with fail
      go_roundg (n - (i + 1))
      case rel => exact ⟨i + 1, rfl, by omega, rfl, HO5.out, B5.out⟩
      case measure => omega
    · obtain rfl : i = n := by omega
      obtain ⟨X, hX⟩ : ∃ X : ByteArray, X = ⟨(joinD ((lsts l).map dquote)).toArray⟩ := ⟨_, rfl⟩
      have hXs : X.size ≤ 10000000000 := by
        have h1 : X.size = (joinD ((lsts l).map dquote)).length := by rw [hX]; show (joinD ((lsts l).map dquote)).toArray.size = _; simp
        have := HJ.out; omega
      have HX := Lib.hid hX
      have h91 : (⟨#[91]⟩ : ByteArray).size = 1 := rfl
      have h93 : (⟨#[93]⟩ : ByteArray).size = 1 := rfl
      have hjoin : Calls Tryz.prog 35 #[.slice va i vc, .string ⟨#[44]⟩] wr fun e w' => e = .returned (.string X) ∧ Below wr.heap.size wr w' := by
        have ht : l.take i = l := List.take_of_length_le (by rw [HLN.out]; exact Nat.le_refl _)
        have ho := HO.out
        rw [ht] at ho
        have hxl : (l.map qv).length = i := by rw [List.length_map, HLN.out]
        have hjl : Lib.join ((l.map qv).map (·.data.toList)) (⟨#[44]⟩ : ByteArray).data.toList = joinD ((lsts l).map dquote) := by
          show [44].intercalate _ = _
          rw [joinD_inter]; congr 1
          simp only [lsts, List.map_map]; rfl
        rcases Nat.eq_zero_or_pos i with h0 | h0
        · subst h0
          have hl0 : l = [] := List.eq_nil_of_length_eq_zero HLN.out
          refine (Tryz.strings_Join_none va vc ⟨#[44]⟩ wr).mono ?_
          rintro e w' ⟨rfl, rfl⟩
          exact ⟨by rw [hX, hl0]; rfl, Below.refl _ _⟩
        · rcases ho.2 with ⟨hv, hz⟩ | ⟨g, cap', cur, hv, hg1, hg2, hnc, hcm, hcs, htk⟩
          · omega
          · simp only [Value.slice.injEq] at hv
            obtain ⟨rfl, -, rfl⟩ := hv
            have hk := Tryz.strings_Join g 0 vc (l.map qv) ⟨#[44]⟩ wr (fun j x hx => by
              rw [Nat.zero_add]
              have := ho.cellAt j (by
                have := (List.getElem?_eq_some_iff.1 hx).1
                omega)
              rw [this]
              rw [List.getElem?_map] at hx ⊢
              obtain ⟨s, hs1, rfl⟩ := Option.map_eq_some_iff.1 hx
              rw [hs1]; rfl) (Array.getElem?_eq_some_iff.1 hg2).1 (by omega) (by omega) (by rw [hjl]; have := HJ.out; omega)
            rw [hxl, hjl, ← hX] at hk
            exact hk
      clear hX
      have HJN := Lib.hid hjoin
      clear hjoin
      go_wp2_with fail
      refine HJN.out.mono ?_
      rintro e w6 ⟨rfl, b6⟩
      have B6 : Hid (Below B w w6) := Lib.hid (HBB.out.trans (b6.mono hBs))
      clear b6 HJN
      go_wp2_with fail
      go_ret
      exact ⟨by rw [← dlist_app, ← HX.out]; rfl, B6.out⟩
end Go.Proofs.YtokbakpbhpknfaaGreatDoor

namespace Go.Proofs.YtokbakpbhpknfaaGreatDoor
open Go.RowKit
set_option linter.unusedVariables false

/-- What is written of a list's beginning. -/
def lM (l : List ByteArray) (i : Nat) : List UInt8 := 91 :: joinD ((lsts (l.take i)).map dquote)
theorem lM_len (l : List ByteArray) (i : Nat) (hn : l.length ≤ 1000) (hs : ∀ s ∈ l, s.size ≤ 1000000) : (lM l i).length ≤ 10000000001 := by
  have := joinQ_len (l.take i) (by rw [List.length_take]; omega) (fun s hs' => hs s (List.mem_of_mem_take hs'))
  unfold lM; simp only [List.length_cons]; omega
theorem lM_first (l : List ByteArray) (x : ByteArray) (ht : l.take 1 = [x]) : bs (lM l 0) ++ bs (dquote x.data.toList) = bs (lM l 1) := by
  unfold lM
  rw [ht]
  apply ByteArray.ext; apply Array.toList_inj.1
  simp [bs, lsts, joinD]
theorem lM_step (l : List ByteArray) (i : Nat) (x : ByteArray) (hi : 0 < i) (hl : i < l.length) (ht : l.take (i + 1) = l.take i ++ [x]) : (bs (lM l i) ++ ⟨#[44]⟩) ++ bs (dquote x.data.toList) = bs (lM l (i + 1)) := by
  unfold lM
  have hne : (lsts (l.take i)).map dquote ≠ [] := by
    intro h
    have := congrArg List.length h
    simp [lsts] at this
    rcases this with h | h
    · omega
    · rw [h] at hl; simp at hl
  rw [ht, show lsts (l.take i ++ [x]) = lsts (l.take i) ++ [x.data.toList] by simp [lsts], List.map_append, show [x.data.toList].map dquote = [dquote x.data.toList] from rfl, joinD_snoc _ hne]
  apply ByteArray.ext; apply Array.toList_inj.1
  simp [bs]
theorem lM_end (l : List ByteArray) : bs (lM l l.length) ++ ⟨#[93]⟩ = bs (dlist (lsts l)) := by
  unfold lM
  rw [List.take_of_length_le (Nat.le_refl _)]
  apply ByteArray.ext; apply Array.toList_inj.1
  simp [bs, dlist]
theorem bs_size (l : List UInt8) : (bs l).size = l.length := by show l.toArray.size = _; simp

set_option maxRecDepth 100000 in
set_option maxHeartbeats 16000000 in
theorem rlist_any (a : Option Addr) (n cap : Nat) (l : List ByteArray) (w : World) (hS : IsS w a n cap l) (hn : n ≤ 1000) (hs : ∀ s ∈ l, s.size ≤ 1000000) :
    Calls Tryz.prog 55 #[.slice a n cap] w fun e w' => e = .returned (.string (bs (dlist (lsts l)))) ∧ Below w.heap.size w w' := by
  have HS := Lib.hid hS
  have HSZ := Lib.hid hs
  have hln := hS.length
  have HLL := Lib.hid (fun i => lM_len l i (by rw [hln]; exact hn) hs)
  clear hS hs
  obtain ⟨B, hB⟩ : ∃ B, B = w.heap.size := ⟨_, rfl⟩
  rw [← hB]
  have HB := Lib.hid hB
  have HLN := Lib.hid hln
  have h44 : (⟨#[44]⟩ : ByteArray).size = 1 := rfl
  have h93 : (⟨#[93]⟩ : ByteArray).size = 1 := rfl
  clear hB hln
  go_enter Tryz.func55, Tryz.ntmps55
  go_wp2_with fail
  go_loopg [3, 4] n (fun gk v3 v4 wr => ∃ (i : Nat) (S : ByteArray), gk = n - i ∧ i ≤ n ∧ v4 = .int .i64 (i : Int) ∧ v3 = .string S ∧ Hid (S = bs (lM l i)) ∧ Below B w wr)
  case atStart => exact ⟨0, _, rfl, Nat.zero_le _, rfl, rfl, Lib.hid rfl, Below.refl _ _⟩
  case round =>
    obtain ⟨i, S, rfl, hin, rfl, rfl, HSE, hb⟩ := hrel
    have HBB := Lib.hid hb
    have hBs : B ≤ wr.heap.size := by have := hb.size; have := HB.out; omega
    have hSs : S.size ≤ 10000000001 := by rw [HSE.out, bs_size]; exact HLL.out i
    clear hb
    by_cases hlt : i < n
    · have hlt' : (i : Int) < (n : Int) := by omega
      have hwr : IntKind.i64.wrap ((i : Int) + 1) = ((i + 1 : Nat) : Int) := by rw [IntKind.wrap_i64]; omega
      obtain ⟨b, off, rfl, hbl, hc⟩ : ∃ b off, a = some ⟨b, off, none⟩ ∧ b < w.heap.size ∧ ∀ i, i < n → w.cell? ⟨b, off + i, none⟩ = some (.string (l.getD i ⟨#[]⟩)) := by
        rcases HS.out.at_ with h | h
        · omega
        · exact h
      obtain ⟨x, hx⟩ : ∃ x, x = l.getD i ⟨#[]⟩ := ⟨_, rfl⟩
      have hl : i < l.length := by rw [HLN.out]; exact hlt
      have hxe : x = l[i] := by rw [hx, List.getD_eq_getElem?_getD, List.getElem?_eq_getElem hl]; rfl
      have hx6 : x.size ≤ 1000000 := HSZ.out x (by rw [hxe]; exact List.getElem_mem hl)
      have hxs : x.size ≤ 1000000000 := by omega
      have HT : Hid (l.take (i + 1) = l.take i ++ [x]) := Lib.hid (by rw [List.take_succ_eq_append_getElem hl, hxe])
      have hcell : wr.cell? ⟨b, off + i, none⟩ = some (.string x) := by rw [hx]; exact ((HBB.out.mono (by rw [HB.out]; exact Nat.le_refl _)).cell (p := ⟨b, off + i, none⟩) hbl).trans (hc i hlt)
      obtain ⟨Y, hY⟩ : ∃ Y, Y = bs (dquote x.data.toList) := ⟨_, rfl⟩
      have hYs : Y.size ≤ 2000002 := by
        rw [hY, bs_size]
        have := dquote_len x.data.toList
        have e : x.data.toList.length = x.size := by simp
        omega
      have hq : Calls Tryz.prog 54 #[.string x] wr fun e w' => e = .returned (.string Y) ∧ Below wr.heap.size wr w' := by rw [hY]; exact rquote_any x wr hxs
      have HY := Lib.hid hY
      have HQ := Lib.hid hq
      have HL := Lib.hid hl
      clear hx hxe hc hY hq hl hxs hx6
      by_cases h0 : i = 0
      · subst h0
        have hcell0 : wr.cell? ⟨b, off, none⟩ = some (.string x) := by simpa using hcell
        have HE : Hid (S ++ Y = bs (lM l 1)) := Lib.hid (by rw [HSE.out, HY.out]; exact lM_first l x (by have := HT.out; simpa using this))
        go_wp2_with fail
        refine HQ.out.mono ?_
        rintro e w6 ⟨rfl, b6⟩
        have B6 : Hid (Below B w w6) := Lib.hid (HBB.out.trans (b6.mono hBs))
        clear b6 HQ hcell hcell0
        go_wp2_with fail
        go_roundg (n - 1)
        case rel => exact ⟨1, S ++ Y, rfl, by omega, rfl, rfl, HE, B6.out⟩
        case measure => omega
      · have hpos : (i : Int) > 0 := by omega
        have hpos' : (0 : Int) < (i : Int) := by omega
        have HE : Hid ((S ++ ⟨#[44]⟩) ++ Y = bs (lM l (i + 1))) := Lib.hid (by rw [HSE.out, HY.out]; exact lM_step l i x (by omega) HL.out HT.out)
        have hS2 : (S ++ (⟨#[44]⟩ : ByteArray)).size = S.size + 1 := by rw [ByteArray.size_append]; rfl
        go_wp2_with fail
        refine HQ.out.mono ?_
        rintro e w6 ⟨rfl, b6⟩
        have B6 : Hid (Below B w w6) := Lib.hid (HBB.out.trans (b6.mono hBs))
        clear b6 HQ hcell
        go_wp2_with fail
        go_roundg (n - (i + 1))
        case rel => exact ⟨i + 1, _, rfl, by omega, rfl, rfl, HE, B6.out⟩
        case measure => omega
    · obtain rfl : i = n := by omega
      go_wp2_with fail
      go_ret
      refine ⟨?_, HBB.out⟩
      have h := lM_end l
      rw [HLN.out, ← HSE.out] at h
      rw [← h]; rfl
end Go.Proofs.YtokbakpbhpknfaaGreatDoor
