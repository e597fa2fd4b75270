/-
  The contract of the reference's Restart. Conditions: the reference's device; bools in old memory, or none.
-/
import Derived.Test.YtjidiholhhdanaaRSSync
import Derived.Deep.CutBlock
namespace Go.Proofs.Ytjidiholhhdanaa
open Go.RowKit
set_option linter.unusedVariables false
set_option maxRecDepth 100000

theorem bs_ext {x y : ByteArray} (h : x.data.toList = y.data.toList) : x = y := by
  apply ByteArray.ext; apply Array.toList_inj.1; exact h
theorem bs_take (l : List UInt8) (c : Nat) : (bs l).extract 0 c = bs (l.take c) := by
  apply bs_ext; rw [ByteArray.data_extract, Array.toList_extract, List.extract_eq_take_drop]; simp [bs]
theorem bs_drop (l : List UInt8) (c : Nat) : (bs l).extract c (bs l).size = bs (l.drop c) := by
  apply bs_ext
  rw [ByteArray.data_extract, Array.toList_extract, List.extract_eq_take_drop, bs_size]
  show ((l.drop c).take (l.length - c)) = (l.drop c)
  exact List.take_of_length_le (by rw [List.length_drop]; exact Nat.le_refl _)
theorem bs_append (a b : List UInt8) : bs a ++ bs b = bs (a ++ b) := by
  apply bs_ext; simp [bs]

set_option maxHeartbeats 8000000 in
theorem rrestart_any {w : World} {B rp : Nat} {vl vw : Value} {n : Nat} {D : List UInt8} {way : List Wr} {left : Nat} {off : Bool} {ops : Nat} (h : RDev w B rp vl vw n D way left off ops) (hw : way.length ≤ 100000) (hn : 0 < n) (hBw : B ≤ w.heap.size)
    (a : Option Addr) (kl kc : Nat) (ks : List Bool) (hk : IsO w B a kl kc ks) (torn cut : Int) :
    Calls Try.prog 15 #[.pointer (some ⟨rp, 0, none⟩), .slice a kl kc, .int .i64 torn, .int .i64 cut] w fun e w' => e = .returned (.tuple #[]) ∧
      RDev w' B rp vl (.slice none 0 0) n (resK ks torn (clampN cut) way D way.length) [] 0 false ops ∧ Kp refT B w w' := by
  have HH := Lib.hid h
  have HK := Lib.hid hk
  have HBW := Lib.hid hBw
  have hkl : kl ≤ 9223372036854775807 := by have := hk.room; unfold maxLen at this; omega
  obtain ⟨lg, lc, rfl, _, _⟩ := h.line hn
  obtain ⟨va, vc, rfl⟩ := h.vform
  obtain ⟨c, hc⟩ : ∃ c, c = clampN cut := ⟨_, rfl⟩
  have HCC : Hid (c ≤ 256) := Lib.hid (by rw [hc]; exact clampN_le _)
  have HCE : Hid ((c : Int) = min (max cut 0) 256) := Lib.hid (by rw [hc]; exact clampN_eq _)
  rw [← hc]
  obtain ⟨z, hz⟩ : ∃ z : Int, z = max cut 0 := ⟨_, rfl⟩
  have HZ := Lib.hid hz
  have hz0 : 0 ≤ z := by omega
  clear h hk hc hz hBw
  go_enter Try.func15, Try.ntmps15
  go_upto_if 11 with fail
  go_cut [3] (fun aa wx => aa = .int .i64 z ∧ w = wx)
  case first =>
    by_cases hc : cut < 0
    · have e : z = 0 := by have := HZ.out; omega
      go_wp2_with fail
      go_meet
      exact ⟨by rw [e], rfl⟩
    · have e : z = cut := by have := HZ.out; omega
      have E := Lib.hid e
      clear e
      go_wp2_with fail
      go_meet
      exact ⟨by rw [E.out], rfl⟩
  case rest =>
    obtain ⟨rfl, rfl⟩ := hcut
    go_upto_if 13 with fail
    go_cut [3] (fun aa wx => aa = .int .i64 (c : Int) ∧ w = wx)
    case first =>
      by_cases hc : 256 < z
      · have e : c = 256 := by have := HZ.out; have := HCE.out; omega
        go_wp2_with fail
        go_meet
        exact ⟨by rw [e]; rfl, rfl⟩
      · have e : (c : Int) = z := by have := HZ.out; have := HCE.out; omega
        have E := Lib.hid e
        clear e
        go_wp2_with fail
        go_meet
        exact ⟨by rw [E.out], rfl⟩
    case rest =>
      obtain ⟨rfl, rfl⟩ := hcut
      have hcc : (c : Int) ≤ 256 := by have := HCC.out; omega
      go_wp2_with fail
      go_loopw [8] (fun ii wr => ∃ k : Nat, k ≤ way.length ∧ ii = .int .i64 k ∧ Hid (RDev wr B rp (.slice (some ⟨lg, 0, none⟩) n lc) (.slice va way.length vc) n (resK ks torn c way D k) way left off ops) ∧ Hid (Kp refT B w wr)) (fun ii _ => way.length - (intOf ii).toNat)
      case atStart => exact ⟨0, Nat.zero_le _, rfl, HH, Lib.hid (Kp.refl _ _ _)⟩
      case round =>
        clear HH
        obtain ⟨k, hk, rfl, hd, hkp⟩ := hrel
        have c1 := hd.out.box.cellAt (i := 1) rfl
        by_cases hlt : k < way.length
        · have hki : (k : Int) < (way.length : Int) := by omega
          obtain ⟨g, cp, hv, ce, cs⟩ := hd.out.elem hlt
          obtain ⟨rfl, rfl⟩ : va = some ⟨g, 0, none⟩ ∧ vc = cp := by cases hv; exact ⟨rfl, rfl⟩
          obtain ⟨i, hi⟩ : ∃ i, i = (way.getD k (0, [])).1 := ⟨_, rfl⟩
          obtain ⟨p, hpp⟩ : ∃ p, p = (way.getD k (0, [])).2 := ⟨_, rfl⟩
          have hin : i < n := by rw [hi]; exact (hd.out.good k hlt).1
          have hp : p.length = 256 := by rw [hpp]; exact (hd.out.good k hlt).2
          rw [← hi] at ce
          rw [← hpp] at cs
          obtain ⟨s, hs⟩ : ∃ s, s = bs p := ⟨_, rfl⟩
          rw [← hs] at cs
          have hini : (i : Int) < (n : Int) := by omega
          have hss : s.size = 256 := by rw [hs, bs_size, hp]
          have HWK : Hid (way.getD k (0, []) = (i, p)) := Lib.hid (by rw [hi, hpp])
          have HS := Lib.hid hs
          have HPL := Lib.hid hp
          have HSS := Lib.hid hss
          clear hv hi hpp hs hp hss
          obtain ⟨lg', lc', hlv, cl, fl⟩ := hd.out.line hin
          obtain ⟨rfl, rfl⟩ : lg' = lg ∧ lc' = lc := by cases hlv; exact ⟨rfl, rfl⟩
          clear hlv
          go_upto_region 8 with fail
          obtain ⟨N, hN⟩ : ∃ N, N = wr.heap.size := ⟨_, rfl⟩
          obtain ⟨w9, hw9⟩ : ∃ x, x = wr.alloc (.cells #[.int .i64 (i : Int), .string s] 72) := ⟨_, rfl⟩
          rw [← hN, ← hw9]
          have hb9 : Below wr.heap.size wr w9 := by rw [hw9]; exact (Below.refl _ _).alloc (Nat.le_refl _) _
          have X9 : Hid (Has w9 N [.int .i64 (i : Int), .string s] 72) := Lib.hid (by rw [hw9, hN]; exact Has.new wr _ _)
          have D9 := Lib.hid (hd.out.kp (ts := []) (B' := 0) (Kp.of_below hb9) (by simp) (by simp) (by simp))
          have K9 : Hid (Kp refT B w w9) := Lib.hid (hkp.out.trans (Kp.of_below hb9))
          have cl9 : w9.cell? ⟨lg', i, none⟩ = some (.string (bs (sec (resK ks torn c way D k) i))) := by
            obtain ⟨x, y, e, h, _⟩ := D9.out.line hin; cases e; exact h
          have fl9 : w9.frozen? ⟨lg', i, none⟩ = false := by
            obtain ⟨x, y, e, _, h⟩ := D9.out.line hin; cases e; exact h
          have HKO := Lib.hid (HK.out.kp hkp.out (by decide))
          have HKO9 := Lib.hid (HKO.out.kp (ts := []) (Kp.of_below hb9) (by simp))
          have HN : Hid (rp ≠ lg' ∧ N ≠ lg') := Lib.hid ⟨fun e => own_type D9.out.strs D9.out.box (by decide) (by rw [e]; rfl), fun e => by
            have := own_type D9.out.strs X9.out (by decide)
            exact this (by rw [e]; rfl)⟩
          have hln := (hd.out.good k hlt).1
          rw [HWK.out] at hln
          have HRL := Lib.hid hd.out.dl
          have HGI := Lib.hid hlt
          clear hN hw9 hb9 cl fl c1 ce cs hd hkp hln
          have c0 := D9.out.box.cellAt (i := 0) rfl
          have cn0 := X9.out.cellAt (i := 0) rfl
          have cn1 := X9.out.cellAt (i := 1) rfl
          obtain ⟨q, hq⟩ : ∃ q, q = sec (resK ks torn c way D k) i := ⟨_, rfl⟩
          have HQ := Lib.hid hq
          have HQL : Hid (q.length = 256) := Lib.hid (by rw [hq]; exact sec_length HRL.out hin)
          rw [← hq] at cl9
          obtain ⟨t, ht⟩ : ∃ t, t = bs q := ⟨_, rfl⟩
          rw [← ht] at cl9
          have hts : t.size = 256 := by rw [ht, bs_size]; exact HQL.out
          have HT := Lib.hid ht
          have HTS := Lib.hid hts
          clear hq ht hts
          by_cases hto : (k : Int) = torn
          · have ht1 : ((k : Int) == torn) = true := by simpa using hto
            have hsk : resK ks torn c way D (k + 1) = landL (resK ks torn c way D k) (i, p) c := by rw [resK, if_pos hto, HWK.out]
            have hD : (resK ks torn c way D (k + 1)).length = 256 * n := by rw [hsk]; exact landL_length HRL.out hin HPL.out
            have hso : ∀ j, j < n → j ≠ i → sec (resK ks torn c way D (k + 1)) j = sec (resK ks torn c way D k) j := by
              intro j hj hne
              rw [hsk]; unfold landL
              rw [sec_splice_other HRL.out hin hj (by rw [List.length_take]; have := HPL.out; omega) hne]
            have hsi : sec (resK ks torn c way D (k + 1)) i = p.take c ++ q.drop c := by
              rw [hsk]; unfold landL
              have := sec_splice_part HRL.out hin HPL.out (c := c) (HCC.out)
              rw [this, ← HQ.out]
            have HLD := Lib.hid (D9.out.laid hin hD hso)
            rw [hsi] at HLD
            obtain ⟨X, hX⟩ : ∃ X, X = bs (p.take c) := ⟨_, rfl⟩
            obtain ⟨Y, hY⟩ : ∃ Y, Y = bs (q.drop c) := ⟨_, rfl⟩
            have HX : Hid (s.extract 0 c = X) := Lib.hid (by rw [HS.out, hX]; exact bs_take p c)
            have HY : Hid (t.extract c t.size = Y) := Lib.hid (by rw [HT.out, hY]; exact bs_drop q c)
            have HY2 : Hid (t.extract c 256 = Y) := Lib.hid (by rw [← HTS.out]; exact HY.out)
            rw [← bs_append, ← hX, ← hY] at HLD
            have hxs : (X.size : Int) ≤ 8388608 := by rw [hX, bs_size, List.length_take]; have := HPL.out; omega
            have hys : (Y.size : Int) ≤ 8388608 := by rw [hY, bs_size, List.length_drop]; have := HQL.out; omega
            have hcs : (c : Int) ≤ (s.size : Int) := by rw [HSS.out]; have := HCC.out; omega
            have hct : (c : Int) ≤ (t.size : Int) := by rw [HTS.out]; have := HCC.out; omega
            have hcs2 : c ≤ s.size := by omega
            have hct2 : c ≤ t.size := by omega
            clear hX hY hsk hD hso hsi hto
            go_upto_region 9 with fail
            refine wp_region_held_drew (S := fun W => W.cell? ⟨rp, 0, none⟩ = some (.slice (some ⟨lg', 0, none⟩) n lc') ∧ W.cell? ⟨N, 0, none⟩ = some (.int .i64 (i : Int)) ∧ W.cell? ⟨N, 1, none⟩ = some (.string s)) (by kernel_rfl) ⟨c0, cn0, cn1⟩ (fun hHeld => ?_)
            refine wpAnyH_take (i := 0) (oi := { dst := some 33, op := Op.move (Operand.tmp 0), type := 28, pos := "ref.go:98", after := #[], guard := none }) (v := .pointer (some ⟨rp, 0, none⟩)) rfl (by kernel_rfl) (by kernel_rfl) (by kernel_rfl) (fun _ _ _ h => h)
              (Or.inl ⟨by rfl, by intro w hSw;  clear hSw; go_simp⟩) hHeld ?_
            try simp only [Act.put, List.setIfInBounds_toArray, List.set_cons_zero, List.set_cons_succ]
            refine wpAnyH_take (i := 1) (oi := { dst := some 34, op := Op.nilCheck (Operand.tmp 33), type := 0, pos := "ref.go:98", after := #[{ on := 0, ground := Ground.data }], guard := none }) (v := .pointer (some ⟨rp, 0, none⟩)) rfl (by kernel_rfl) (by kernel_rfl) (by kernel_rfl) (fun _ _ _ h => h)
              (Or.inl ⟨by rfl, by intro w hSw;  clear hSw; go_simp⟩) hHeld ?_
            try simp only [Act.put, List.setIfInBounds_toArray, List.set_cons_zero, List.set_cons_succ]
            refine wpAnyH_take (i := 2) (oi := { dst := some 35, op := Op.fieldAddr 38 (Operand.tmp 34) 0, type := 0, pos := "ref.go:98", after := #[{ on := 1, ground := Ground.data }], guard := none }) (v := .pointer (some ⟨rp, 0, none⟩)) rfl (by kernel_rfl) (by kernel_rfl) (by kernel_rfl) (fun _ _ _ h => h)
              (Or.inl ⟨by rfl, by intro w hSw;  clear hSw; go_simp⟩) hHeld ?_
            try simp only [Act.put, List.setIfInBounds_toArray, List.set_cons_zero, List.set_cons_succ]
            refine wpAnyH_take (i := 3) (oi := { dst := some 36, op := Op.load 35 (Operand.tmp 35), type := 35, pos := "ref.go:98", after := #[{ on := 2, ground := Ground.data }], guard := none }) (v := .slice (some ⟨lg', 0, none⟩) n lc') rfl (by kernel_rfl) (by kernel_rfl) (by kernel_rfl) (fun _ _ _ h => h)
              (Or.inl ⟨by rfl, by intro w hSw; have s0 := hSw.1; clear hSw; go_simp⟩) hHeld ?_
            try simp only [Act.put, List.setIfInBounds_toArray, List.set_cons_zero, List.set_cons_succ]
            refine wpAnyH_take (i := 4) (oi := { dst := some 37, op := Op.fieldAddr 72 (Operand.tmp 9) 0, type := 0, pos := "ref.go:98", after := #[], guard := none }) (v := .pointer (some ⟨N, 0, none⟩)) rfl (by kernel_rfl) (by kernel_rfl) (by kernel_rfl) (fun _ _ _ h => h)
              (Or.inl ⟨by rfl, by intro w hSw;  clear hSw; go_simp⟩) hHeld ?_
            try simp only [Act.put, List.setIfInBounds_toArray, List.set_cons_zero, List.set_cons_succ]
            refine wpAnyH_take (i := 5) (oi := { dst := some 38, op := Op.load 3 (Operand.tmp 37), type := 3, pos := "ref.go:98", after := #[{ on := 4, ground := Ground.data }], guard := none }) (v := .int .i64 (i : Int)) rfl (by kernel_rfl) (by kernel_rfl) (by kernel_rfl) (fun _ _ _ h => h)
              (Or.inl ⟨by rfl, by intro w hSw; have s1 := hSw.2.1; clear hSw; go_simp⟩) hHeld ?_
            try simp only [Act.put, List.setIfInBounds_toArray, List.set_cons_zero, List.set_cons_succ]
            refine wpAnyH_take (i := 6) (oi := { dst := some 39, op := Op.fieldAddr 72 (Operand.tmp 9) 1, type := 0, pos := "ref.go:98", after := #[], guard := none }) (v := .pointer (some ⟨N, 1, none⟩)) rfl (by kernel_rfl) (by kernel_rfl) (by kernel_rfl) (fun _ _ _ h => h)
              (Or.inl ⟨by rfl, by intro w hSw;  clear hSw; go_simp⟩) hHeld ?_
            try simp only [Act.put, List.setIfInBounds_toArray, List.set_cons_zero, List.set_cons_succ]
            refine wpAnyH_take (i := 7) (oi := { dst := some 40, op := Op.load 9 (Operand.tmp 39), type := 9, pos := "ref.go:98", after := #[{ on := 6, ground := Ground.data }], guard := none }) (v := .string s) rfl (by kernel_rfl) (by kernel_rfl) (by kernel_rfl) (fun _ _ _ h => h)
              (Or.inl ⟨by rfl, by intro w hSw; have s2 := hSw.2.2; clear hSw; go_simp⟩) hHeld ?_
            try simp only [Act.put, List.setIfInBounds_toArray, List.set_cons_zero, List.set_cons_succ]
            refine wpAnyH_take (i := 8) (oi := { dst := some 41, op := Op.move (Operand.tmp 3), type := 3, pos := "ref.go:98", after := #[], guard := none }) (v := .int .i64 (c : Int)) rfl (by kernel_rfl) (by kernel_rfl) (by kernel_rfl) (fun _ _ _ h => h)
              (Or.inl ⟨by rfl, by intro w hSw;  clear hSw; go_simp⟩) hHeld ?_
            try simp only [Act.put, List.setIfInBounds_toArray, List.set_cons_zero, List.set_cons_succ]
            refine wpAnyH_take (i := 9) (oi := { dst := some 42, op := Op.slice 9 (Operand.tmp 40) none (some (Operand.tmp 41)) none, type := 9, pos := "ref.go:98", after := #[{ on := 7, ground := Ground.data }, { on := 8, ground := Ground.data }], guard := none }) (v := .string X) rfl (by kernel_rfl) (by kernel_rfl) (by kernel_rfl) (fun _ _ _ h => h)
              (Or.inl ⟨by rfl, by intro w hSw;  clear hSw; go_simp; exact HX.out⟩) hHeld ?_
            try simp only [Act.put, List.setIfInBounds_toArray, List.set_cons_zero, List.set_cons_succ]
            refine wpAnyH_take (i := 10) (oi := { dst := some 43, op := Op.move (Operand.tmp 0), type := 28, pos := "ref.go:98", after := #[], guard := none }) (v := .pointer (some ⟨rp, 0, none⟩)) rfl (by kernel_rfl) (by kernel_rfl) (by kernel_rfl) (fun _ _ _ h => h)
              (Or.inl ⟨by rfl, by intro w hSw;  clear hSw; go_simp⟩) hHeld ?_
            try simp only [Act.put, List.setIfInBounds_toArray, List.set_cons_zero, List.set_cons_succ]
            refine wpAnyH_take (i := 11) (oi := { dst := some 44, op := Op.nilCheck (Operand.tmp 43), type := 0, pos := "ref.go:98", after := #[{ on := 10, ground := Ground.data }], guard := none }) (v := .pointer (some ⟨rp, 0, none⟩)) rfl (by kernel_rfl) (by kernel_rfl) (by kernel_rfl) (fun _ _ _ h => h)
              (Or.inl ⟨by rfl, by intro w hSw;  clear hSw; go_simp⟩) hHeld ?_
            try simp only [Act.put, List.setIfInBounds_toArray, List.set_cons_zero, List.set_cons_succ]
            refine wpAnyH_take (i := 12) (oi := { dst := some 45, op := Op.fieldAddr 38 (Operand.tmp 44) 0, type := 0, pos := "ref.go:98", after := #[{ on := 11, ground := Ground.data }], guard := none }) (v := .pointer (some ⟨rp, 0, none⟩)) rfl (by kernel_rfl) (by kernel_rfl) (by kernel_rfl) (fun _ _ _ h => h)
              (Or.inl ⟨by rfl, by intro w hSw;  clear hSw; go_simp⟩) hHeld ?_
            try simp only [Act.put, List.setIfInBounds_toArray, List.set_cons_zero, List.set_cons_succ]
            refine wpAnyH_take (i := 13) (oi := { dst := some 46, op := Op.load 35 (Operand.tmp 45), type := 35, pos := "ref.go:98", after := #[{ on := 12, ground := Ground.data }], guard := none }) (v := .slice (some ⟨lg', 0, none⟩) n lc') rfl (by kernel_rfl) (by kernel_rfl) (by kernel_rfl) (fun _ _ _ h => h)
              (Or.inl ⟨by rfl, by intro w hSw; have s0 := hSw.1; clear hSw; go_simp⟩) hHeld ?_
            try simp only [Act.put, List.setIfInBounds_toArray, List.set_cons_zero, List.set_cons_succ]
            refine wpAnyH_take (i := 14) (oi := { dst := some 47, op := Op.fieldAddr 72 (Operand.tmp 9) 0, type := 0, pos := "ref.go:98", after := #[], guard := none }) (v := .pointer (some ⟨N, 0, none⟩)) rfl (by kernel_rfl) (by kernel_rfl) (by kernel_rfl) (fun _ _ _ h => h)
              (Or.inl ⟨by rfl, by intro w hSw;  clear hSw; go_simp⟩) hHeld ?_
            try simp only [Act.put, List.setIfInBounds_toArray, List.set_cons_zero, List.set_cons_succ]
            refine wpAnyH_take (i := 15) (oi := { dst := some 48, op := Op.load 3 (Operand.tmp 47), type := 3, pos := "ref.go:98", after := #[{ on := 14, ground := Ground.data }], guard := none }) (v := .int .i64 (i : Int)) rfl (by kernel_rfl) (by kernel_rfl) (by kernel_rfl) (fun _ _ _ h => h)
              (Or.inl ⟨by rfl, by intro w hSw; have s1 := hSw.2.1; clear hSw; go_simp⟩) hHeld ?_
            try simp only [Act.put, List.setIfInBounds_toArray, List.set_cons_zero, List.set_cons_succ]
            refine wpAnyH_take (i := 16) (oi := { dst := some 49, op := Op.indexAddr 35 (Operand.tmp 46) (Operand.tmp 48), type := 0, pos := "ref.go:98", after := #[{ on := 13, ground := Ground.data }, { on := 15, ground := Ground.data }], guard := none }) (v := .pointer (some ⟨lg', i, none⟩)) rfl (by kernel_rfl) (by kernel_rfl) (by kernel_rfl) (fun _ _ _ h => h)
              (Or.inl ⟨by rfl, by intro w hSw;  clear hSw; go_simp⟩) hHeld ?_
            try simp only [Act.put, List.setIfInBounds_toArray, List.set_cons_zero, List.set_cons_succ]
            refine wpAnyH_take (i := 18) (oi := { dst := some 51, op := Op.move (Operand.tmp 3), type := 3, pos := "ref.go:98", after := #[], guard := none }) (v := .int .i64 (c : Int)) rfl (by kernel_rfl) (by kernel_rfl) (by kernel_rfl) (fun _ _ _ h => h)
              (Or.inl ⟨by rfl, by intro w hSw;  clear hSw; go_simp⟩) hHeld ?_
            try simp only [Act.put, List.setIfInBounds_toArray, List.set_cons_zero, List.set_cons_succ]
            refine wpAnyH_ready (rs := [17]) (by kernel_rfl) (by simp) ?_
            refine AllReadyH.cons (o := { dst := some 50, op := Op.load 9 (Operand.tmp 49), type := 9, pos := "ref.go:98", after := #[{ on := 16, ground := Ground.data }], guard := none }) rfl (fun K hK => ?_) AllReadyH.nil
            have cl2 : w9.drew.cell? ⟨lg', i, none⟩ = some (.string t) := cl9
            go_simp
            clear cl2
            refine hK.out _ _ hHeld (fun hHw1 => ?_)
            clear hK K hHeld
            try simp only [Act.put, List.setIfInBounds_toArray, List.set_cons_zero, List.set_cons_succ]
            refine wpAnyH_take (i := 19) (oi := { dst := some 52, op := Op.slice 9 (Operand.tmp 50) (some (Operand.tmp 51)) none none, type := 9, pos := "ref.go:98", after := #[{ on := 17, ground := Ground.data }, { on := 18, ground := Ground.data }], guard := none }) (v := .string Y) rfl (by kernel_rfl) (by kernel_rfl) (by kernel_rfl) (fun _ _ _ h => h)
              (Or.inl ⟨by rfl, by intro w hSw;  clear hSw; go_simp; first | exact HY.out | exact HY2.out⟩) hHw1 ?_
            try simp only [Act.put, List.setIfInBounds_toArray, List.set_cons_zero, List.set_cons_succ]
            refine wpAnyH_take (i := 20) (oi := { dst := some 53, op := Op.binOp BinOp.add 9 (Operand.tmp 42) (Operand.tmp 52) 9, type := 9, pos := "ref.go:98", after := #[{ on := 9, ground := Ground.data }, { on := 19, ground := Ground.data }], guard := none }) (v := .string (X ++ Y)) rfl (by kernel_rfl) (by kernel_rfl) (by kernel_rfl) (fun _ _ _ h => h)
              (Or.inl ⟨by rfl, by intro w hSw;  clear hSw; go_simp; omega⟩) hHw1 ?_
            try simp only [Act.put, List.setIfInBounds_toArray, List.set_cons_zero, List.set_cons_succ]
            refine wpAnyH_take (i := 21) (oi := { dst := some 54, op := Op.indexAddr 35 (Operand.tmp 36) (Operand.tmp 38), type := 0, pos := "ref.go:98", after := #[{ on := 3, ground := Ground.data }, { on := 5, ground := Ground.data }, { on := 0, ground := Ground.phase }, { on := 1, ground := Ground.phase }, { on := 2, ground := Ground.phase }, { on := 3, ground := Ground.phase }, { on := 4, ground := Ground.phase }, { on := 5, ground := Ground.phase }, { on := 6, ground := Ground.phase }, { on := 7, ground := Ground.phase }, { on := 8, ground := Ground.phase }, { on := 9, ground := Ground.phase }, { on := 10, ground := Ground.phase }, { on := 11, ground := Ground.phase }, { on := 12, ground := Ground.phase }, { on := 13, ground := Ground.phase }, { on := 14, ground := Ground.phase }, { on := 15, ground := Ground.phase }, { on := 16, ground := Ground.phase }, { on := 17, ground := Ground.phase }, { on := 18, ground := Ground.phase }, { on := 19, ground := Ground.phase }, { on := 20, ground := Ground.phase }], guard := none }) (v := .pointer (some ⟨lg', i, none⟩)) rfl (by kernel_rfl) (by kernel_rfl) (by kernel_rfl) (fun _ _ _ h => h)
              (Or.inl ⟨by rfl, by intro w hSw;  clear hSw; go_simp⟩) hHw1 ?_
            try simp only [Act.put, List.setIfInBounds_toArray, List.set_cons_zero, List.set_cons_succ]
            refine wpAnyH_ready (rs := [22]) (by kernel_rfl) (by simp) ?_
            refine AllReadyH.cons (o := { dst := none, op := Op.store 9 (Operand.tmp 54) (Operand.tmp 53), type := 0, pos := "ref.go:98", after := #[{ on := 21, ground := Ground.data }, { on := 20, ground := Ground.data }, { on := 0, ground := Ground.phase }, { on := 1, ground := Ground.phase }, { on := 2, ground := Ground.phase }, { on := 3, ground := Ground.phase }, { on := 4, ground := Ground.phase }, { on := 5, ground := Ground.phase }, { on := 6, ground := Ground.phase }, { on := 7, ground := Ground.phase }, { on := 8, ground := Ground.phase }, { on := 9, ground := Ground.phase }, { on := 10, ground := Ground.phase }, { on := 11, ground := Ground.phase }, { on := 12, ground := Ground.phase }, { on := 13, ground := Ground.phase }, { on := 14, ground := Ground.phase }, { on := 15, ground := Ground.phase }, { on := 16, ground := Ground.phase }, { on := 17, ground := Ground.phase }, { on := 18, ground := Ground.phase }, { on := 19, ground := Ground.phase }, { on := 20, ground := Ground.phase }], guard := none }) rfl (fun K hK => ?_) AllReadyH.nil
            have cl2 : w9.drew.cell? ⟨lg', i, none⟩ = some (.string t) := cl9
            have fl2 : w9.drew.frozen? ⟨lg', i, none⟩ = false := fl9
            go_simp
            clear cl2 fl2
            refine hK.out _ _ ⟨?_, ?_, ?_⟩ (fun hHw2 => ?_)
            · exact (World.cell?_setCell_far _ ⟨lg', i, none⟩ _ _ (by first | exact Ne.symm HN.out.1 | exact Ne.symm HN.out.2)).trans hHw1.1
            · exact (World.cell?_setCell_far _ ⟨lg', i, none⟩ _ _ (by first | exact Ne.symm HN.out.1 | exact Ne.symm HN.out.2)).trans hHw1.2.1
            · exact (World.cell?_setCell_far _ ⟨lg', i, none⟩ _ _ (by first | exact Ne.symm HN.out.1 | exact Ne.symm HN.out.2)).trans hHw1.2.2
            clear hK K hHw1
            try simp only [Act.put]
            refine wpAnyH_done (by kernel_rfl) ?_ _
            clear hHw2
            have FIN : Hid (RDev (w9.setCell ⟨lg', i, none⟩ (.string (X ++ Y))).drew B rp (.slice (some ⟨lg', 0, none⟩) n lc') (.slice (some ⟨g, 0, none⟩) way.length vc) n (resK ks torn c way D (k + 1)) way left off ops) := Lib.hid (HLD.out.1.kp (ts := []) (B' := 0) (Kp.of_below (Below.refl _ _).drew) (by simp) (by simp) (by simp))
            have KF : Hid (Kp refT B w (w9.setCell ⟨lg', i, none⟩ (.string (X ++ Y))).drew) := Lib.hid (K9.out.trans (HLD.out.2.trans (Kp.of_below (Below.refl _ _).drew)))
            clear HLD c0 cn0 cn1 cl9 fl9
            go_wp2_with fail
            go_roundw
            case rel => exact ⟨k + 1, by omega, by go_num, FIN, KF⟩
            case measure => simp [intOf]; omega
          · have ht1 : ((k : Int) == torn) = false := by simpa using hto
            by_cases hkk : k < kl
            · have hki2 : (k : Int) < (kl : Int) := by omega
              obtain ⟨kb, ko, rfl, hkc⟩ : ∃ kb ko, a = some ⟨kb, ko, none⟩ ∧ w9.cell? ⟨kb, ko + k, none⟩ = some (.bool (ks.getD k false)) := by
                rcases HKO9.out.at_ with h0 | ⟨b, o, e, _, _, hcc2⟩
                · omega
                · exact ⟨b, o, e, hcc2 k hkk⟩
              cases hb : ks.getD k false with
              | true =>
                rw [hb] at hkc
                have hsk : resK ks torn c way D (k + 1) = landL (resK ks torn c way D k) (i, p) 256 := by rw [resK, if_neg hto, if_pos hb, HWK.out]
                have hD : (resK ks torn c way D (k + 1)).length = 256 * n := by rw [hsk]; exact landL_length HRL.out hin HPL.out
                have hso : ∀ j, j < n → j ≠ i → sec (resK ks torn c way D (k + 1)) j = sec (resK ks torn c way D k) j := by
                  intro j hj hne
                  rw [hsk]; unfold landL
                  rw [sec_splice_other HRL.out hin hj (by rw [List.length_take]; have := HPL.out; omega) hne]
                have hsi : sec (resK ks torn c way D (k + 1)) i = p.take 256 ++ q.drop 256 := by
                  rw [hsk]; unfold landL
                  have := sec_splice_part HRL.out hin HPL.out (c := 256) (Nat.le_refl _)
                  rw [this, ← HQ.out]
                have HLD := Lib.hid (D9.out.laid hin hD hso)
                rw [hsi] at HLD
                rw [List.take_of_length_le (Nat.le_of_eq HPL.out), List.drop_eq_nil_of_le (Nat.le_of_eq HQL.out), List.append_nil, ← HS.out] at HLD
                clear hsk hD hso hsi hto hb
                go_upto_region 11 with fail
                refine wp_region_held_drew (S := fun W => W.cell? ⟨rp, 0, none⟩ = some (.slice (some ⟨lg', 0, none⟩) n lc') ∧ W.cell? ⟨N, 0, none⟩ = some (.int .i64 (i : Int)) ∧ W.cell? ⟨N, 1, none⟩ = some (.string s)) (by kernel_rfl) ⟨c0, cn0, cn1⟩ (fun hHeld => ?_)
                refine wpAnyH_take (i := 0) (oi := { dst := some 65, op := Op.move (Operand.tmp 0), type := 28, pos := "ref.go:100", after := #[], guard := none }) (v := .pointer (some ⟨rp, 0, none⟩)) rfl (by kernel_rfl) (by kernel_rfl) (by kernel_rfl) (fun _ _ _ h => h)
                  (Or.inl ⟨by rfl, by intro w hSw;  clear hSw; go_simp⟩) hHeld ?_
                try simp only [Act.put, List.setIfInBounds_toArray, List.set_cons_zero, List.set_cons_succ]
                refine wpAnyH_take (i := 1) (oi := { dst := some 66, op := Op.nilCheck (Operand.tmp 65), type := 0, pos := "ref.go:100", after := #[{ on := 0, ground := Ground.data }], guard := none }) (v := .pointer (some ⟨rp, 0, none⟩)) rfl (by kernel_rfl) (by kernel_rfl) (by kernel_rfl) (fun _ _ _ h => h)
                  (Or.inl ⟨by rfl, by intro w hSw;  clear hSw; go_simp⟩) hHeld ?_
                try simp only [Act.put, List.setIfInBounds_toArray, List.set_cons_zero, List.set_cons_succ]
                refine wpAnyH_take (i := 2) (oi := { dst := some 67, op := Op.fieldAddr 38 (Operand.tmp 66) 0, type := 0, pos := "ref.go:100", after := #[{ on := 1, ground := Ground.data }], guard := none }) (v := .pointer (some ⟨rp, 0, none⟩)) rfl (by kernel_rfl) (by kernel_rfl) (by kernel_rfl) (fun _ _ _ h => h)
                  (Or.inl ⟨by rfl, by intro w hSw;  clear hSw; go_simp⟩) hHeld ?_
                try simp only [Act.put, List.setIfInBounds_toArray, List.set_cons_zero, List.set_cons_succ]
                refine wpAnyH_take (i := 3) (oi := { dst := some 68, op := Op.load 35 (Operand.tmp 67), type := 35, pos := "ref.go:100", after := #[{ on := 2, ground := Ground.data }], guard := none }) (v := .slice (some ⟨lg', 0, none⟩) n lc') rfl (by kernel_rfl) (by kernel_rfl) (by kernel_rfl) (fun _ _ _ h => h)
                  (Or.inl ⟨by rfl, by intro w hSw; have s0 := hSw.1; clear hSw; go_simp⟩) hHeld ?_
                try simp only [Act.put, List.setIfInBounds_toArray, List.set_cons_zero, List.set_cons_succ]
                refine wpAnyH_take (i := 4) (oi := { dst := some 69, op := Op.fieldAddr 72 (Operand.tmp 9) 0, type := 0, pos := "ref.go:100", after := #[], guard := none }) (v := .pointer (some ⟨N, 0, none⟩)) rfl (by kernel_rfl) (by kernel_rfl) (by kernel_rfl) (fun _ _ _ h => h)
                  (Or.inl ⟨by rfl, by intro w hSw;  clear hSw; go_simp⟩) hHeld ?_
                try simp only [Act.put, List.setIfInBounds_toArray, List.set_cons_zero, List.set_cons_succ]
                refine wpAnyH_take (i := 5) (oi := { dst := some 70, op := Op.load 3 (Operand.tmp 69), type := 3, pos := "ref.go:100", after := #[{ on := 4, ground := Ground.data }], guard := none }) (v := .int .i64 (i : Int)) rfl (by kernel_rfl) (by kernel_rfl) (by kernel_rfl) (fun _ _ _ h => h)
                  (Or.inl ⟨by rfl, by intro w hSw; have s1 := hSw.2.1; clear hSw; go_simp⟩) hHeld ?_
                try simp only [Act.put, List.setIfInBounds_toArray, List.set_cons_zero, List.set_cons_succ]
                refine wpAnyH_take (i := 6) (oi := { dst := some 71, op := Op.fieldAddr 72 (Operand.tmp 9) 1, type := 0, pos := "ref.go:100", after := #[], guard := none }) (v := .pointer (some ⟨N, 1, none⟩)) rfl (by kernel_rfl) (by kernel_rfl) (by kernel_rfl) (fun _ _ _ h => h)
                  (Or.inl ⟨by rfl, by intro w hSw;  clear hSw; go_simp⟩) hHeld ?_
                try simp only [Act.put, List.setIfInBounds_toArray, List.set_cons_zero, List.set_cons_succ]
                refine wpAnyH_take (i := 7) (oi := { dst := some 72, op := Op.load 9 (Operand.tmp 71), type := 9, pos := "ref.go:100", after := #[{ on := 6, ground := Ground.data }], guard := none }) (v := .string s) rfl (by kernel_rfl) (by kernel_rfl) (by kernel_rfl) (fun _ _ _ h => h)
                  (Or.inl ⟨by rfl, by intro w hSw; have s2 := hSw.2.2; clear hSw; go_simp⟩) hHeld ?_
                try simp only [Act.put, List.setIfInBounds_toArray, List.set_cons_zero, List.set_cons_succ]
                refine wpAnyH_take (i := 8) (oi := { dst := some 73, op := Op.indexAddr 35 (Operand.tmp 68) (Operand.tmp 70), type := 0, pos := "ref.go:100", after := #[{ on := 3, ground := Ground.data }, { on := 5, ground := Ground.data }, { on := 0, ground := Ground.phase }, { on := 1, ground := Ground.phase }, { on := 2, ground := Ground.phase }, { on := 3, ground := Ground.phase }, { on := 4, ground := Ground.phase }, { on := 5, ground := Ground.phase }, { on := 6, ground := Ground.phase }, { on := 7, ground := Ground.phase }], guard := none }) (v := .pointer (some ⟨lg', i, none⟩)) rfl (by kernel_rfl) (by kernel_rfl) (by kernel_rfl) (fun _ _ _ h => h)
                  (Or.inl ⟨by rfl, by intro w hSw;  clear hSw; go_simp⟩) hHeld ?_
                try simp only [Act.put, List.setIfInBounds_toArray, List.set_cons_zero, List.set_cons_succ]
                refine wpAnyH_ready (rs := [9]) (by kernel_rfl) (by simp) ?_
                refine AllReadyH.cons (o := { dst := none, op := Op.store 9 (Operand.tmp 73) (Operand.tmp 72), type := 0, pos := "ref.go:100", after := #[{ on := 8, ground := Ground.data }, { on := 7, ground := Ground.data }, { on := 0, ground := Ground.phase }, { on := 1, ground := Ground.phase }, { on := 2, ground := Ground.phase }, { on := 3, ground := Ground.phase }, { on := 4, ground := Ground.phase }, { on := 5, ground := Ground.phase }, { on := 6, ground := Ground.phase }, { on := 7, ground := Ground.phase }], guard := none }) rfl (fun K hK => ?_) AllReadyH.nil
                have cl2 : w9.drew.cell? ⟨lg', i, none⟩ = some (.string t) := cl9
                have fl2 : w9.drew.frozen? ⟨lg', i, none⟩ = false := fl9
                go_simp
                clear cl2 fl2
                refine hK.out _ _ ⟨?_, ?_, ?_⟩ (fun hHw1 => ?_)
                · exact (World.cell?_setCell_far _ ⟨lg', i, none⟩ _ _ (by first | exact Ne.symm HN.out.1 | exact Ne.symm HN.out.2)).trans hHeld.1
                · exact (World.cell?_setCell_far _ ⟨lg', i, none⟩ _ _ (by first | exact Ne.symm HN.out.1 | exact Ne.symm HN.out.2)).trans hHeld.2.1
                · exact (World.cell?_setCell_far _ ⟨lg', i, none⟩ _ _ (by first | exact Ne.symm HN.out.1 | exact Ne.symm HN.out.2)).trans hHeld.2.2
                clear hK K hHeld
                try simp only [Act.put]
                refine wpAnyH_done (by kernel_rfl) ?_ _
                clear hHw1
                have FIN : Hid (RDev (w9.setCell ⟨lg', i, none⟩ (.string (s))).drew B rp (.slice (some ⟨lg', 0, none⟩) n lc') (.slice (some ⟨g, 0, none⟩) way.length vc) n (resK ks torn c way D (k + 1)) way left off ops) := Lib.hid (HLD.out.1.kp (ts := []) (B' := 0) (Kp.of_below (Below.refl _ _).drew) (by simp) (by simp) (by simp))
                have KF : Hid (Kp refT B w (w9.setCell ⟨lg', i, none⟩ (.string (s))).drew) := Lib.hid (K9.out.trans (HLD.out.2.trans (Kp.of_below (Below.refl _ _).drew)))
                clear HLD c0 cn0 cn1 cl9 fl9
                go_wp2_with fail
                go_roundw
                case rel => exact ⟨k + 1, by omega, by go_num, FIN, KF⟩
                case measure => simp [intOf]; omega
              | false =>
                rw [hb] at hkc
                have hsk : Hid (resK ks torn c way D (k + 1) = resK ks torn c way D k) := Lib.hid (by rw [resK, if_neg hto, hb, if_neg (by simp)])
                clear hto hb
                go_wp2_with fail
                go_roundw
                case rel => exact ⟨k + 1, by omega, by go_num, Lib.hid (by rw [hsk.out]; exact D9.out), K9⟩
                case measure => simp [intOf]; omega
            · have hki2 : ¬ (k : Int) < (kl : Int) := by omega
              have hsk : Hid (resK ks torn c way D (k + 1) = resK ks torn c way D k) := Lib.hid (by rw [resK, if_neg hto, if_neg]; rw [List.getD_eq_getElem?_getD, List.getElem?_eq_none (by rw [HK.out.length]; omega)]; simp)
              clear hto
              go_wp2_with fail
              go_roundw
              case rel => exact ⟨k + 1, by omega, by go_num, Lib.hid (by rw [hsk.out]; exact D9.out), K9⟩
              case measure => simp [intOf]; omega
        · obtain rfl : k = way.length := by omega
          have f1 := hd.out.box.frozen 1
          have f2 := hd.out.box.frozen 2
          have f3 := hd.out.box.frozen 3
          have c2 := hd.out.box.cellAt (i := 2) rfl
          have c3 := hd.out.box.cellAt (i := 3) rfl
          go_wp2_with fail
          have h2 := ((hd.out.box.set 1 (.slice none 0 0)).set 3 (.bool false)).set 2 (.int .i64 0)
          have b2 : But wr.heap.size rp wr (((wr.setCell ⟨rp, 1, none⟩ (.slice none 0 0)).setCell ⟨rp, 3, none⟩ (.bool false)).setCell ⟨rp, 2, none⟩ (.int .i64 0)) := (((But.refl _ _ _).setB 1 _).setB 3 _).setB 2 _
          first | go_end0 | refine bodyPost_ret (results_none rfl _ _ _) rfl ?_
          exact ⟨rfl, hd.out.emptied h2 b2, hkp.out.trans (Kp.of_but b2 hd.out.rpB hd.out.box (by decide))⟩

end Go.Proofs.Ytjidiholhhdanaa
