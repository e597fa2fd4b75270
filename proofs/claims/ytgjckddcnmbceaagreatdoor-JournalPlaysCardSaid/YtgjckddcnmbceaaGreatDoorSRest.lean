/-
  The contract of the device's Restart. Conditions: the device; a slice of bools that lies in old memory, or is nil.
-/
import Derived.Test.YtgjckddcnmbceaaGreatDoorSIoN
namespace Go.Proofs.YtgjckddcnmbceaaGreatDoor
open Go.RowKit
set_option linter.unusedVariables false
set_option maxRecDepth 100000

/-- A slice of bools as the list of them, in memory that no device's call writes. -/
structure IsO (w : World) (B : Nat) (a : Option Addr) (len cap : Nat) (l : List Bool) : Prop where
  length : l.length = len
  at_ : len = 0 ∨ ∃ b off, a = some ⟨b, off, none⟩ ∧ b < w.heap.size ∧ (b < B ∨ ∃ X, Has w b X 4) ∧ ∀ i, i < len → w.cell? ⟨b, off + i, none⟩ = some (.bool (l.getD i false))
  room : len ≤ maxLen
theorem IsO.kp {w w' : World} {B : Nat} {a : Option Addr} {len cap : Nat} {l : List Bool} {ts : List TypeId} (h : IsO w B a len cap l) (hk : Kp ts B w w') (ht : 4 ∉ ts) : IsO w' B a len cap l := by
  refine ⟨h.length, ?_, h.room⟩
  rcases h.at_ with h0 | ⟨b, off, rfl, hlt, hB, hc⟩
  · exact .inl h0
  · rcases hB with hB | ⟨X, hX⟩
    · exact .inr ⟨b, off, rfl, Nat.lt_of_lt_of_le hlt hk.size, .inl hB, fun i hi => (World.cell?_of_block (w := w) (hk.block b hlt (.inl hB))).trans (hc i hi)⟩
    · have h2 := hX.kp hk ht
      exact .inr ⟨b, off, rfl, h2.lt, .inr ⟨X, h2⟩, fun i hi => (World.cell?_of_block (w := w) (h2.trans hX.symm)).trans (hc i hi)⟩
theorem isO_nil (w : World) (B : Nat) : IsO w B none 0 0 [] := ⟨rfl, .inl rfl, Nat.zero_le _⟩

def clampN (z : Int) : Nat := (min (max z 0) 256).toNat
theorem clampN_eq (z : Int) : ((clampN z : Nat) : Int) = min (max z 0) 256 := by unfold clampN; omega
theorem clampN_le (z : Int) : clampN z ≤ 256 := by unfold clampN; omega

set_option maxHeartbeats 8000000 in
theorem restart_any {w : World} {B pb bd bl : Nat} {v : Value} {n : Nat} {D L : List UInt8} {way : List Wr} {ops fall : Nat} {off : Bool} (h : Dev w B pb bd bl v n D L way ops fall off) (hw : way.length ≤ 100000)
    (a : Option Addr) (kl kc : Nat) (ks : List Bool) (hk : IsO w B a kl kc ks) (torn cut : Int) :
    Calls Tryz.prog 14 #[.pointer (some ⟨pb, 0, none⟩), .slice a kl kc, .int .i64 torn, .int .i64 cut] w fun e w' => e = .returned (.int .i64 0) ∧
      Dev w' B pb bd bl (.slice none 0 0) n (resK ks torn (clampN cut) way D way.length) (latK way (resK ks torn (clampN cut) way D way.length) L way.length) [] ops 0 false ∧ Kp devT B w w' := by
  have HH := Lib.hid h
  have HK := Lib.hid hk
  have hkl : kl ≤ 9223372036854775807 := by have := hk.room; unfold maxLen at this; omega
  obtain ⟨va, cap, rfl⟩ := h.vform
  have c2 := h.box.cellAt (i := 2) rfl
  obtain ⟨c, hc⟩ : ∃ c, c = clampN cut := ⟨_, rfl⟩
  have HCC : Hid (c ≤ 256) := Lib.hid (by rw [hc]; exact clampN_le _)
  have HCE : Hid ((c : Int) = min (max cut 0) 256) := Lib.hid (by rw [hc]; exact clampN_eq _)
  rw [← hc]
  clear h hk hc
  go_enter Tryz.func14, Tryz.ntmps14
  go_wp2_with fail
  clear c2
  go_loopw [19] (fun ii wr => ∃ k : Nat, k ≤ way.length ∧ ii = .int .i64 k ∧ Hid (Dev wr B pb bd bl (.slice va way.length cap) n (resK ks torn c way D k) L way ops fall off) ∧ Hid (Kp devT B w wr)) (fun ii _ => way.length - (intOf ii).toNat)
  case atStart => exact ⟨0, Nat.zero_le _, rfl, HH, Lib.hid (Kp.refl _ _ _)⟩
  case round =>
    clear HH
    obtain ⟨k, hk, rfl, hd, hkp⟩ := hrel
    have c2 := hd.out.box.cellAt (i := 2) rfl
    by_cases hlt : k < way.length
    · have hlti : (k : Int) < (way.length : Int) := by omega
      obtain ⟨g, cp, hv, _⟩ := hd.out.elem hlt
      obtain ⟨rfl, rfl⟩ : va = some ⟨g, 0, none⟩ ∧ cap = cp := by cases hv; exact ⟨rfl, rfl⟩
      clear hv
      by_cases ht : (k : Int) = torn
      · have ht1 : ((k : Int) == torn) = true := by simpa using ht
        have HS : Hid (resK ks torn c way D (k + 1) = landL (resK ks torn c way D k) (way.getD k (0, [])) c) := Lib.hid (by rw [resK, if_pos ht])
        clear ht
        rcases (show cut < 0 ∨ (0 ≤ cut ∧ cut ≤ 256) ∨ 256 < cut by omega) with q1 | ⟨q1, q2⟩ | q1
        · have HL := Lib.hid (land_dev hd.out hlt c HCC.out 0 (by have := HCE.out; omega) g cap rfl)
          have q3 : ¬ 0 ≤ cut := by omega
          have q4 : cut ≤ 0 := by omega
          go_wp2_with (first | (go_at_call 33; refine HL.out.mono ?_; rintro e w3 ⟨rfl, hd3, hk3⟩))
          go_roundw
          case rel => exact ⟨k + 1, by omega, by go_num, Lib.hid (by rw [HS.out]; exact hd3), Lib.hid (hkp.out.trans hk3)⟩
          case measure => simp [intOf]; omega
        · have HL := Lib.hid (land_dev hd.out hlt c HCC.out cut (by have := HCE.out; omega) g cap rfl)
          have q3 : ¬ cut < 0 := by omega
          have q4 : ¬ 256 < cut := by omega
          go_wp2_with (first | (go_at_call 33; refine HL.out.mono ?_; rintro e w3 ⟨rfl, hd3, hk3⟩))
          go_roundw
          case rel => exact ⟨k + 1, by omega, by go_num, Lib.hid (by rw [HS.out]; exact hd3), Lib.hid (hkp.out.trans hk3)⟩
          case measure => simp [intOf]; omega
        · have HL := Lib.hid (land_dev hd.out hlt c HCC.out 256 (by have := HCE.out; omega) g cap rfl)
          have q3 : ¬ cut < 0 := by omega
          have q4 : ¬ cut ≤ 256 := by omega
          have q5 : 0 ≤ cut := by omega
          go_wp2_with (first | (go_at_call 33; refine HL.out.mono ?_; rintro e w3 ⟨rfl, hd3, hk3⟩))
          go_roundw
          case rel => exact ⟨k + 1, by omega, by go_num, Lib.hid (by rw [HS.out]; exact hd3), Lib.hid (hkp.out.trans hk3)⟩
          case measure => simp [intOf]; omega
      · have ht1 : ((k : Int) == torn) = false := by simpa using ht
        by_cases hkk : k < kl
        · have hki : (k : Int) < (kl : Int) := by omega
          obtain ⟨kb, ko, rfl, hkc⟩ : ∃ kb ko, a = some ⟨kb, ko, none⟩ ∧ wr.cell? ⟨kb, ko + k, none⟩ = some (.bool (ks.getD k false)) := by
            rcases (HK.out.kp hkp.out (by decide)).at_ with h0 | ⟨b, o, e, _, _, hcc⟩
            · omega
            · exact ⟨b, o, e, hcc k hkk⟩
          cases hb : ks.getD k false with
          | true =>
            rw [hb] at hkc
            have HS : Hid (resK ks torn c way D (k + 1) = landL (resK ks torn c way D k) (way.getD k (0, [])) 256) := Lib.hid (by rw [resK, if_neg ht, if_pos hb])
            have HL := Lib.hid (land_dev hd.out hlt 256 (Nat.le_refl _) 256 rfl g cap rfl)
            clear ht hb
            go_wp2_with (first | (go_at_call 33; refine HL.out.mono ?_; rintro e w3 ⟨rfl, hd3, hk3⟩))
            go_roundw
            case rel => exact ⟨k + 1, by omega, by go_num, Lib.hid (by rw [HS.out]; exact hd3), Lib.hid (hkp.out.trans hk3)⟩
            case measure => simp [intOf]; omega
          | false =>
            rw [hb] at hkc
            have HS : Hid (resK ks torn c way D (k + 1) = resK ks torn c way D k) := Lib.hid (by rw [resK, if_neg ht, hb, if_neg (by simp)])
            clear ht hb
            go_wp2_with fail
            go_roundw
            case rel => exact ⟨k + 1, by omega, by go_num, Lib.hid (by rw [HS.out]; exact hd.out), hkp⟩
            case measure => simp [intOf]; omega
        · have hki : ¬ (k : Int) < (kl : Int) := by omega
          have HS : Hid (resK ks torn c way D (k + 1) = resK ks torn c way D k) := Lib.hid (by
            rw [resK, if_neg ht, if_neg]
            rw [List.getD_eq_getElem?_getD, List.getElem?_eq_none (by rw [HK.out.length]; omega)]; simp)
          clear ht
          go_wp2_with fail
          go_roundw
          case rel => exact ⟨k + 1, by omega, by go_num, Lib.hid (by rw [HS.out]; exact hd.out), hkp⟩
          case measure => simp [intOf]; omega
    · obtain rfl : k = way.length := by omega
      obtain ⟨D', hD'⟩ : ∃ D', D' = resK ks torn c way D way.length := ⟨_, rfl⟩
      have HD' := Lib.hid hD'
      rw [← hD'] at hd
      clear hD'
      go_wp2_with fail
      clear c2
      have KP := hkp
      have DD := hd
      clear hkp hd
      go_loopw [60] (fun ii wr => ∃ k : Nat, k ≤ way.length ∧ ii = .int .i64 k ∧ Hid (Dev wr B pb bd bl (.slice va way.length cap) n D' (latK way D' L k) way ops fall off) ∧ Hid (Kp devT B w wr)) (fun ii _ => way.length - (intOf ii).toNat)
      case atStart => exact ⟨0, Nat.zero_le _, rfl, DD, KP⟩
      case round =>
        clear KP DD
        obtain ⟨k, hk, rfl, hd, hkp⟩ := hrel
        have c2 := hd.out.box.cellAt (i := 2) rfl
        by_cases hlt : k < way.length
        · have hlti : (k : Int) < (way.length : Int) := by omega
          obtain ⟨g, cp, hv, ce, _⟩ := hd.out.elem hlt
          obtain ⟨rfl, rfl⟩ : va = some ⟨g, 0, none⟩ ∧ cap = cp := by cases hv; exact ⟨rfl, rfl⟩
          clear hv
          obtain ⟨i, hi⟩ : ∃ i, i = (way.getD k (0, [])).1 := ⟨_, rfl⟩
          have hin : i < n := by rw [hi]; exact (hd.out.good k hlt).1
          rw [← hi] at ce
          have HS : Hid (latK way D' L (k + 1) = splice (latK way D' L k) (256 * i) (sec D' i)) := Lib.hid (by rw [latK, ← hi])
          have hini : (i : Int) < (n : Int) := by omega
          have c0 := hd.out.box.cellAt (i := 0) rfl
          have c1 := hd.out.box.cellAt (i := 1) rfl
          obtain ⟨X, hX⟩ : ∃ X, X = (sec D' i).map bv := ⟨_, rfl⟩
          have hXl : X.length = 256 := by rw [hX, List.length_map, sec_length hd.out.dl hin]
          have HSR : Hid (∀ j u, X[j]? = some u → wr.cell? ((⟨bd, i * 256, none⟩ : Addr).add j) = some u) := Lib.hid (by
            intro j u hj
            have hjl : j < 256 := by rw [← hXl]; exact (List.getElem?_eq_some_iff.1 hj).1
            rw [Addr.add_mid]
            refine hd.out.dur.cellAt ?_
            rw [← hj, hX, List.getElem?_map, List.getElem?_map, sec_get hjl, Nat.mul_comm])
          have HMN : Hid (X.length = Nat.min 256 256) := Lib.hid hXl
          have HFT : Hid (i * 256 + X.length ≤ ((latK way D' L k).map bv).length) := Lib.hid (by rw [hXl, List.length_map, Nat.mul_comm]; exact fits hd.out.ll hin (Nat.le_refl _))
          have HON : Hid (∀ u ∈ X, u.oneCell' = true) := Lib.hid (by rw [hX]; exact bv_one _)
          have HX := Lib.hid hX
          have HU := Lib.hid infoU
          have HG : Hid (wr.heap[bl]? = some (.cells ((latK way D' L k).map bv).toArray 75 (0, 0))) := Lib.hid hd.out.lat
          have HSL := Lib.hid (sec_length hd.out.dl hin)
          clear hi hX hXl
          go_upto_region 15 with fail
          go_region_law ((refine step_copy_but (by rfl) (.tmp 77) (.tmp 84) 33 33 (by rfl) 5 Tryz.underlying33 HU.out (some ⟨bl, i * 256, none⟩) (some ⟨bd, i * 256, none⟩) 256 256 256 256 (by rfl) (by rfl) bl (i * 256) ((latK way D' L k).map bv) 75 HG.out X HMN.out (fun _ => ⟨rfl, _, rfl, HSR.out⟩) HFT.out HON.out ?_; intro w4 hg4 hb4))
          all_goals
            have hb5 : But wr.heap.size bl wr w4 := ((But.refl _ _ _).drew).trans hb4.out
            have h4 := hg4.out
            rw [HX.out, splice_map, Nat.mul_comm] at h4
            have DD := Lib.hid (hd.out.laid (L' := splice (latK way D' L k) (256 * i) (sec D' i)) h4 hb5 (by rw [length_splice _ _ _ (fits hd.out.ll hin (Nat.le_of_eq HSL.out)), hd.out.ll]))
            have KK := Lib.hid (hkp.out.trans (Kp.of_but (ts := devT) hb5 hd.out.blB hd.out.lat (by decide)))
            clear hb5 h4 c0 c1 c2 ce
            go_wp2_with fail
            go_roundw
            case rel => exact ⟨k + 1, by omega, by go_num, Lib.hid (by rw [HS.out]; exact DD.out), KK⟩
            case measure => simp [intOf]; omega
        · obtain rfl : k = way.length := by omega
          have f2 := hd.out.box.frozen 2
          have f4 := hd.out.box.frozen 4
          have f5 := hd.out.box.frozen 5
          have c4 := hd.out.box.cellAt (i := 4) rfl
          have c5 := hd.out.box.cellAt (i := 5) rfl
          go_wp2_with fail
          go_ret
          have h2 := ((hd.out.box.set 2 (.slice none 0 0)).set 4 (.int .u64 0)).set 5 (.bool false)
          have b2 : But wr.heap.size pb wr (((wr.setCell ⟨pb, 2, none⟩ (.slice none 0 0)).setCell ⟨pb, 4, none⟩ (.int .u64 0)).setCell ⟨pb, 5, none⟩ (.bool false)) := (((But.refl _ _ _).setB 2 _).setB 4 _).setB 5 _
          rw [← HD'.out]
          exact ⟨rfl, hd.out.emptied h2 b2, hkp.out.trans (Kp.of_but b2 hd.out.pbB hd.out.box (by decide))⟩

end Go.Proofs.YtgjckddcnmbceaaGreatDoor
