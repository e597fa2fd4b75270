/-
  The walk of the law JournalPlays. Conditions: the calls lie in old memory; what is laid.
-/
import Derived.Test.YtgjckddcnmbceaaGreatDoorJFull
import Derived.Deep.MidRow
namespace Go.Proofs.YtgjckddcnmbceaaGreatDoor
open Go.RowKit
set_option linter.unusedVariables false
abbrev tMod : TypeId := 32
/-- A text as a value. -/
def sv (p : List UInt8) : Value := .string ⟨p.toArray⟩
def mC (base : List UInt8) (rV : Value) (room : Nat) : List Value := [sv base, rV, .int .i64 (room : Int)]
/-- The model's block, and its records' row. -/
structure Mod (w : World) (B pm room : Nat) (base : List UInt8) (recs : List (List UInt8)) : Prop where
  box : ∃ rV, Has w pm (mC base rV room) tMod ∧ w.ownsRow B 9 1 rV recs.length (recs.map sv)
  pmB : B ≤ pm
theorem Mod.later {w w' : World} {B pm room : Nat} {base : List UInt8} {recs : List (List UInt8)} (h : Mod w B pm room base recs) (hb : Below w.heap.size w w') : Mod w' B pm room base recs := by
  obtain ⟨⟨rV, h1, h2⟩, h3⟩ := h
  exact ⟨⟨rV, (hb.block pm h1.lt).trans h1, own_later h2 hb⟩, h3⟩
theorem Mod.kp {w w' : World} {B B' pm room : Nat} {base : List UInt8} {recs : List (List UInt8)} {ts : List TypeId} (h : Mod w B pm room base recs) (hk : Kp ts B' w w') (h1 : tMod ∉ ts) (h2 : 9 ∉ ts) : Mod w' B pm room base recs := by
  obtain ⟨⟨rV, h3, h4⟩, h5⟩ := h
  exact ⟨⟨rV, h3.kp hk h1, ownsRow_kp h4 hk h2⟩, h5⟩
/-- How many bytes a base and records take. -/
def usedL (base : List UInt8) (recs : List (List UInt8)) : Nat := (laidL 0 base recs).length
theorem recs_length : ∀ (l : List (List UInt8)) (k k' : Nat), (recsL k l).length = (recsL k' l).length
  | [], _, _ => by simp [recsL]
  | p :: r, k, k' => by rw [recsL, recsL, List.length_append, List.length_append, packL_length, packL_length, recs_length r (k + 1) (k' + 1)]
theorem laid_used (m : Nat) (base : List UInt8) (recs : List (List UInt8)) : (laidL m base recs).length = usedL base recs := by
  unfold usedL laidL
  rw [List.length_append, List.length_append, packL_length, packL_length, recs_length recs (m + 2) (0 + 2)]
theorem used_next (base : List UInt8) (recs : List (List UInt8)) (j : Nat) (hj : j < recs.length) : usedL base (recs.take (j + 1)) = usedL base (recs.take j) + (32 + (recs.getD j []).length) := laid_next 0 base recs j hj
theorem used_take (base : List UInt8) (recs : List (List UInt8)) (j : Nat) : usedL base (recs.take j) ≤ usedL base recs := by
  unfold usedL
  have h := congrArg List.length (laid_split 0 base recs j)
  rw [List.length_append] at h
  omega
theorem used_nil (base : List UInt8) : usedL base [] = 32 + base.length := by unfold usedL; rw [laid_zero, packL_length]
theorem sv_size (p : List UInt8) : (⟨p.toArray⟩ : ByteArray).size = p.length := by show p.toArray.size = _; simp
/-- A row of texts. -/
theorem own_txts {w : World} {B : Nat} {rV : Value} {recs : List (List UInt8)} (h : w.ownsRow B 9 1 rV recs.length (recs.map sv)) :
    ∃ a c, rV = .slice a recs.length c ∧ recs.length ≤ c ∧ c ≤ maxLen ∧ Txts w a recs := by
  rcases h.2 with ⟨rfl, h0⟩ | ⟨g, cap, cur, rfl, hg, hgg, hle, hmx, hsz, htk⟩
  · exact ⟨none, 0, by rw [h0], by omega, by unfold maxLen; omega, fun i hi => by omega⟩
  · refine ⟨_, _, rfl, hle, hmx, fun i hi => ⟨g, 0, rfl, (Array.getElem?_eq_some_iff.1 hgg).1, ?_⟩⟩
    have hcc := World.ownsRow.cellAt h i (by simpa using hi)
    rw [Nat.zero_add, hcc, List.getD_eq_getElem?_getD, List.getElem?_eq_getElem hi]
    simp [sv]
theorem Txts.later {w x : World} {a : Option Addr} {recs : List (List UInt8)} (h : Txts w a recs) (hb : Below w.heap.size w x) : Txts x a recs := fun i hi => by
  obtain ⟨b, o, e, h1, h2⟩ := h i hi
  exact ⟨b, o, e, Nat.lt_of_lt_of_le h1 hb.size, (hb.cell (p := ⟨b, o + i, none⟩) h1).trans h2⟩

theorem On_few (base : List UInt8) (recs : List (List UInt8)) : 32 * recs.length ≤ usedL base recs := by
  unfold usedL laidL
  have := recs_len_le recs (0 + 2)
  rw [List.length_append]; omega

section
variable {w : World} {B pm room : Nat} {base : List UInt8} {recs : List (List UInt8)}

set_option maxRecDepth 100000 in
set_option maxHeartbeats 4000000 in
theorem fits_any (h : Mod w B pm room base recs) (hu : usedL base recs ≤ room) (hr : room ≤ 90000) (n : Nat) :
    Calls Tryz.prog 12 #[.pointer (some ⟨pm, 0, none⟩), .int .i64 (n : Int)] w fun e w' => e = .returned (.bool (decide (usedL base recs + 32 + n ≤ room))) ∧ Below w.heap.size w w' := by
  obtain ⟨⟨rV, hb, ho⟩, _⟩ := h
  obtain ⟨ra, rc, rfl, hrc, hrm, htx⟩ := own_txts ho
  have HTX := Lib.hid htx
  have HB := Lib.hid hb
  obtain ⟨S, hS⟩ : ∃ S : ByteArray, S = ⟨base.toArray⟩ := ⟨_, rfl⟩
  obtain ⟨BL, hBL⟩ : ∃ BL, BL = base.length := ⟨_, rfl⟩
  have hsz : S.size = BL := by rw [hS, hBL]; exact sv_size base
  have q0 : w.cell? ⟨pm, 0, none⟩ = some (.string S) := by rw [hS]; exact hb.cellAt (i := 0) rfl
  have q2 := hb.cellAt (i := 2) rfl
  obtain ⟨LN, hLN⟩ : ∃ LN, LN = recs.length := ⟨_, rfl⟩
  have hn0 := used_take base recs 0
  rw [List.take_zero, used_nil, ← hBL] at hn0
  obtain ⟨K, hK⟩ : ∃ K : Int, K = (room : Int) - 32 - (BL : Int) - 32 := ⟨_, rfl⟩
  have e1 : wrap64 ((room : Int) - 32) = (room : Int) - 32 := by unfold wrap64; omega
  have e2 : wrap64 ((room : Int) - 32 - (BL : Int)) = (room : Int) - 32 - (BL : Int) := by unfold wrap64; omega
  have e3 : wrap64 ((room : Int) - 32 - (BL : Int) - 32) = K := by rw [hK]; unfold wrap64; omega
  have HK := Lib.hid hK
  have E3 := Lib.hid e3
  have HLN := Lib.hid hLN
  have HBL := Lib.hid hBL
  have HU := Lib.hid hu
  have HR := Lib.hid hr
  have hLs : LN ≤ 1000000000 := by have := On_few base recs; omega
  have hcm : rc ≤ 9223372036854775807 := by unfold maxLen at hrm; omega
  have hLc : LN ≤ rc := by omega
  clear hb ho htx hS hK hLN hn0 hBL hu hr hrc hrm
  go_enter Tryz.func12, Tryz.ntmps12
  go_upto_region 1 with fail
  go_quiet (fail)
  clear q0 q2 e1 e2 e3
  go_wp2_with fail
  go_loopw [5, 6] (fun k ii wr => ∃ (j : Nat) (kk : Int), j ≤ LN ∧ ii = .int .i64 j ∧ k = .int .i64 kk ∧ Hid (kk = (room : Int) - (usedL base (recs.take j) : Nat) - 32) ∧ Hid (Below w.heap.size w wr)) (fun _ ii _ => LN - (intOf ii).toNat)
  case atStart => exact ⟨0, _, Nat.zero_le _, rfl, rfl, Lib.hid (by rw [E3.out, HK.out, List.take_zero, used_nil, HBL.out]; omega), Lib.hid (by repeat (first | exact Below.refl _ _ | apply below_drewN))⟩
  case round =>
    obtain ⟨j, kk, hj, rfl, rfl, hkk, hbw⟩ := hrel
    have q1 := Has.cellAt (i := 1) ((hbw.out.block pm HB.out.lt).trans HB.out) rfl
    by_cases hlt : j < LN
    · have hji : (j : Int) < (LN : Int) := by omega
      have hjr : j < recs.length := by rw [← HLN.out]; exact hlt
      obtain ⟨b, o, rfl, _, hcell⟩ := (HTX.out.later hbw.out) j hjr
      obtain ⟨q, hq⟩ : ∃ q, q = recs.getD j [] := ⟨_, rfl⟩
      have hnx := used_next base recs j hjr
      have htk := used_take base recs (j + 1)
      rw [← hq] at hcell hnx
      obtain ⟨T, hT⟩ : ∃ T : ByteArray, T = ⟨q.toArray⟩ := ⟨_, rfl⟩
      obtain ⟨QL, hQL⟩ : ∃ QL, QL = q.length := ⟨_, rfl⟩
      have hts : T.size = QL := by rw [hT, hQL]; exact sv_size q
      rw [← hT] at hcell
      have hk0 := hkk.out
      have hu0 := HU.out
      have hr0 := HR.out
      rw [← hQL] at hnx
      obtain ⟨kn, hkn⟩ : ∃ kn : Int, kn = kk - (32 + (QL : Int)) := ⟨_, rfl⟩
      have e4 : wrap64 (32 + (QL : Int)) = 32 + (QL : Int) := by unfold wrap64; omega
      have e5 : wrap64 (kk - (32 + (QL : Int))) = kn := by rw [hkn]; unfold wrap64; omega
      have E5 := Lib.hid e5
      have HKN : Hid (kn = (room : Int) - (usedL base (recs.take (j + 1)) : Nat) - 32) := Lib.hid (by rw [hkn, hnx]; omega)
      clear hq hT hQL hnx htk hk0 hu0 hr0 hkn hkk hjr
      rw [← HLN.out] at q1
      go_wp2_with fail
      go_roundw
      case rel => exact ⟨j + 1, _, by omega, by go_num, rfl, Lib.hid (by rw [E5.out]; exact HKN.out), Lib.hid (by repeat (first | exact hbw.out | apply below_drewN))⟩
      case measure => simp [intOf]; omega
    · obtain rfl : j = LN := by omega
      rw [← HLN.out] at q1
      have hk0 := hkk.out
      rw [HLN.out, List.take_length] at hk0
      by_cases hc : usedL base recs + 32 + n ≤ room
      · have hci : (n : Int) ≤ kk := by omega
        have HC := Lib.hid hc
        clear hk0 hc
        go_wp2_with fail
        go_ret
        exact ⟨by rw [decide_eq_true HC.out]; rfl, hbw.out⟩
      · have hci : ¬ (n : Int) ≤ kk := by omega
        have HC := Lib.hid hc
        clear hk0 hc
        go_wp2_with fail
        go_ret
        exact ⟨by rw [decide_eq_false HC.out]; rfl, hbw.out⟩

set_option maxRecDepth 100000 in
set_option maxHeartbeats 4000000 in
theorem mfree_any (h : Mod w B pm room base recs) (hu : usedL base recs ≤ room) (hr : room ≤ 90000) :
    Calls Tryz.prog 18 #[.pointer (some ⟨pm, 0, none⟩)] w fun e w' => e = .returned (.int .i64 ((room - usedL base recs - 32 : Nat) : Int)) ∧ Below w.heap.size w w' := by
  obtain ⟨⟨rV, hb, ho⟩, _⟩ := h
  obtain ⟨ra, rc, rfl, hrc, hrm, htx⟩ := own_txts ho
  have HTX := Lib.hid htx
  have HB := Lib.hid hb
  obtain ⟨S, hS⟩ : ∃ S : ByteArray, S = ⟨base.toArray⟩ := ⟨_, rfl⟩
  obtain ⟨BL, hBL⟩ : ∃ BL, BL = base.length := ⟨_, rfl⟩
  have hsz : S.size = BL := by rw [hS, hBL]; exact sv_size base
  have q0 : w.cell? ⟨pm, 0, none⟩ = some (.string S) := by rw [hS]; exact hb.cellAt (i := 0) rfl
  have q2 := hb.cellAt (i := 2) rfl
  obtain ⟨LN, hLN⟩ : ∃ LN, LN = recs.length := ⟨_, rfl⟩
  have hn0 := used_take base recs 0
  rw [List.take_zero, used_nil, ← hBL] at hn0
  obtain ⟨K, hK⟩ : ∃ K : Int, K = (room : Int) - 32 - (BL : Int) - 32 := ⟨_, rfl⟩
  have e1 : wrap64 ((room : Int) - 32) = (room : Int) - 32 := by unfold wrap64; omega
  have e2 : wrap64 ((room : Int) - 32 - (BL : Int)) = (room : Int) - 32 - (BL : Int) := by unfold wrap64; omega
  have e3 : wrap64 ((room : Int) - 32 - (BL : Int) - 32) = K := by rw [hK]; unfold wrap64; omega
  have HK := Lib.hid hK
  have E3 := Lib.hid e3
  have HLN := Lib.hid hLN
  have HBL := Lib.hid hBL
  have HU := Lib.hid hu
  have HR := Lib.hid hr
  have hLs : LN ≤ 1000000000 := by have := On_few base recs; omega
  have hcm : rc ≤ 9223372036854775807 := by unfold maxLen at hrm; omega
  have hLc : LN ≤ rc := by omega
  clear hb ho htx hS hK hLN hn0 hBL hu hr hrc hrm
  go_enter Tryz.func18, Tryz.ntmps18
  go_upto_region 1 with fail
  go_quiet (fail)
  clear q0 q2 e1 e2 e3
  go_wp2_with fail
  go_loopw [3, 4] (fun k ii wr => ∃ (j : Nat) (kk : Int), j ≤ LN ∧ ii = .int .i64 j ∧ k = .int .i64 kk ∧ Hid (kk = (room : Int) - (usedL base (recs.take j) : Nat) - 32) ∧ Hid (Below w.heap.size w wr)) (fun _ ii _ => LN - (intOf ii).toNat)
  case atStart => exact ⟨0, _, Nat.zero_le _, rfl, rfl, Lib.hid (by rw [E3.out, HK.out, List.take_zero, used_nil, HBL.out]; omega), Lib.hid (by repeat (first | exact Below.refl _ _ | apply below_drewN))⟩
  case round =>
    obtain ⟨j, kk, hj, rfl, rfl, hkk, hbw⟩ := hrel
    have q1 := Has.cellAt (i := 1) ((hbw.out.block pm HB.out.lt).trans HB.out) rfl
    by_cases hlt : j < LN
    · have hji : (j : Int) < (LN : Int) := by omega
      have hjr : j < recs.length := by rw [← HLN.out]; exact hlt
      obtain ⟨b, o, rfl, _, hcell⟩ := (HTX.out.later hbw.out) j hjr
      obtain ⟨q, hq⟩ : ∃ q, q = recs.getD j [] := ⟨_, rfl⟩
      have hnx := used_next base recs j hjr
      have htk := used_take base recs (j + 1)
      rw [← hq] at hcell hnx
      obtain ⟨T, hT⟩ : ∃ T : ByteArray, T = ⟨q.toArray⟩ := ⟨_, rfl⟩
      obtain ⟨QL, hQL⟩ : ∃ QL, QL = q.length := ⟨_, rfl⟩
      have hts : T.size = QL := by rw [hT, hQL]; exact sv_size q
      rw [← hT] at hcell
      have hk0 := hkk.out
      have hu0 := HU.out
      have hr0 := HR.out
      rw [← hQL] at hnx
      obtain ⟨kn, hkn⟩ : ∃ kn : Int, kn = kk - (32 + (QL : Int)) := ⟨_, rfl⟩
      have e4 : wrap64 (32 + (QL : Int)) = 32 + (QL : Int) := by unfold wrap64; omega
      have e5 : wrap64 (kk - (32 + (QL : Int))) = kn := by rw [hkn]; unfold wrap64; omega
      have E5 := Lib.hid e5
      have HKN : Hid (kn = (room : Int) - (usedL base (recs.take (j + 1)) : Nat) - 32) := Lib.hid (by rw [hkn, hnx]; omega)
      clear hq hT hQL hnx htk hk0 hu0 hr0 hkn hkk hjr
      rw [← HLN.out] at q1
      go_wp2_with fail
      go_roundw
      case rel => exact ⟨j + 1, _, by omega, by go_num, rfl, Lib.hid (by rw [E5.out]; exact HKN.out), Lib.hid (by repeat (first | exact hbw.out | apply below_drewN))⟩
      case measure => simp [intOf]; omega
    · obtain rfl : j = LN := by omega
      rw [← HLN.out] at q1
      have hk0 := hkk.out
      rw [HLN.out, List.take_length] at hk0
      obtain ⟨F, hF⟩ : ∃ F, F = room - usedL base recs - 32 := ⟨_, rfl⟩
      have HFF := Lib.hid hF
      by_cases hc : usedL base recs + 32 ≤ room
      · have hci : ¬ kk < 0 := by omega
        have HF : Hid (kk = (F : Int)) := Lib.hid (by omega)
        clear hk0 hc hF
        go_wp2_with fail
        go_ret
        exact ⟨by rw [← HFF.out, ← HF.out]; rfl, hbw.out⟩
      · have hci : kk < 0 := by omega
        have HF : Hid (F = 0) := Lib.hid (by omega)
        clear hk0 hc hF
        go_wp2_with fail
        go_ret
        exact ⟨by rw [← HFF.out, HF.out]; rfl, hbw.out⟩

end

set_option maxRecDepth 100000

abbrev tAct : TypeId := 36
/-- The six cells of a call. -/
def jactL (z N : Int) (pa : Option Addr) (pl pc : Nat) (ka : Option Addr) (kl kc : Nat) (torn cut : Int) : List Value := [.int .u8 z, .slice pa pl pc, .int .u8 N, .slice ka kl kc, .int .i64 torn, .int .i64 cut]
def jactZ : List Value := [.int .u8 0, .slice none 0 0, .int .u8 0, .slice none 0 0, .int .i64 0, .int .i64 0]
def ActOk (W : World) (cs : List Value) : Prop :=
  ∃ (z N : Int) (pa : Option Addr) (pl pc : Nat) (P : List UInt8) (ka : Option Addr) (kl kc : Nat) (torn cut : Int), cs = jactL z N pa pl pc ka kl kc torn cut ∧ 0 ≤ z ∧ z ≤ 255 ∧ IsB W pa pl pc P
/-- A slice of calls. -/
structure IsActs (W : World) (a : Option Addr) (len cap : Nat) : Prop where
  at_ : len = 0 ∨ ∃ b off, a = some ⟨b, off, none⟩ ∧ b < W.heap.size ∧ ∀ i, i < len → ∃ cs, ActOk W cs ∧ W.rangeAt b (off + i * 6) cs
  room : len ≤ maxLen
theorem infoAct (z N : Int) (pa : Option Addr) (pl pc : Nat) (ka : Option Addr) (kl kc : Nat) (torn cut : Int) : (Tryz.prog.info? tAct).map (·.size) = some (jactL z N pa pl pc ka kl kc torn cut).length := by
  show _ = some 6
  kernel_rfl
theorem jact_one (z N : Int) (pa : Option Addr) (pl pc : Nat) (ka : Option Addr) (kl kc : Nat) (torn cut : Int) : (jactL z N pa pl pc ka kl kc torn cut).toArray.all (·.oneCell') = true := by simp [jactL, Value.oneCell']
theorem infoActA (z N : Int) (pa : Option Addr) (pl pc : Nat) (ka : Option Addr) (kl kc : Nat) (torn cut : Int) : (Tryz.prog.info? tAct).map (·.size) = some (jactL z N pa pl pc ka kl kc torn cut).toArray.size := by
  show _ = some 6
  kernel_rfl
theorem infoSt : ∃ i, Tryz.prog.info? 9 = some i ∧ i.zero = some (.string ByteArray.empty) ∧ i.size = 1 ∧ i.bytes = 16 := by
  have h : (Tryz.prog.info? 9).map (fun i => (i.zero, i.size, i.bytes)) = some (some (.string ByteArray.empty), 1, 16) := by kernel_rfl
  obtain ⟨i, hi, hx⟩ := Option.map_eq_some_iff.1 h
  simp only [Prod.mk.injEq] at hx
  exact ⟨i, hi, hx.1, hx.2.1, hx.2.2⟩
theorem wrap_six2 (x : UInt8) : wrap64 (6 + ((x.toNat % 30 : Nat) : Int)) = ((6 + x.toNat % 30 : Nat) : Int) := by unfold wrap64; omega
theorem Jn.kp {w w' : World} {B Bo B' pd pj n k h m : Nat} {L base : List UInt8} {recs : List (List UInt8)} {ts : List TypeId} (j : Jn w B Bo pd pj n k h m L base recs) (hk : Kp ts B' w w')
    (h1 : tDev ∉ ts) (h2 : tArr ∉ ts) (h3 : tWri ∉ ts) (h4 : tJ ∉ ts) (h5 : tBy ∉ ts) (h6 : 5 ∉ ts) : Jn w' B Bo pd pj n k h m L base recs := by
  obtain ⟨a1, a2, ⟨bV, rV, a3, a4, a5⟩, a6⟩ := j
  exact ⟨a1.kp hk h1 h2 h3, a2, ⟨bV, rV, a3.kp hk h4, ownsRow_kp a4 hk h6, a5.kp hk h5 h6⟩, a6⟩
/-- The journal behind i calls. -/
def JP (w : World) (B pd pj n i : Nat) (base : List UInt8) (recs : List (List UInt8)) : Prop :=
  ∃ h m L Bo, Jn w B Bo pd pj n (20000 + 10000 * i) h m L base recs ∧ B ≤ Bo ∧ Bo ≤ w.heap.size ∧ m ≤ 1 + 1000 * i
theorem JP.later {w w' : World} {B pd pj n i : Nat} {base : List UInt8} {recs : List (List UInt8)} (s : JP w B pd pj n i base recs) (hb : Below w.heap.size w w') : JP w' B pd pj n i base recs := by
  obtain ⟨h, m, L, Bo, a, b, c, d⟩ := s
  exact ⟨h, m, L, Bo, a.later hb, b, Nat.le_trans c hb.size, d⟩
theorem JP.kp {w w' : World} {B B' pd pj n i : Nat} {base : List UInt8} {recs : List (List UInt8)} {ts : List TypeId} (s : JP w B pd pj n i base recs) (hk : Kp ts B' w w')
    (h1 : tDev ∉ ts) (h2 : tArr ∉ ts) (h3 : tWri ∉ ts) (h4 : tJ ∉ ts) (h5 : tBy ∉ ts) (h6 : 5 ∉ ts) : JP w' B pd pj n i base recs := by
  obtain ⟨h, m, L, Bo, a, b, c, d⟩ := s
  exact ⟨h, m, L, Bo, a.kp hk h1 h2 h3 h4 h5 h6, b, Nat.le_trans c hk.size, d⟩
theorem JP.up {w : World} {B pd pj n i : Nat} {base : List UInt8} {recs : List (List UInt8)} (s : JP w B pd pj n i base recs) : JP w B pd pj n (i + 1) base recs := by
  obtain ⟨h, m, L, Bo, a, b, c, d⟩ := s
  exact ⟨h, m, L, Bo, a.more (by omega), b, c, by omega⟩
theorem JP.few {w : World} {B pd pj n i : Nat} {base : List UInt8} {recs : List (List UInt8)} (s : JP w B pd pj n i base recs) : usedL base recs ≤ 256 * half n := by
  obtain ⟨h, m, L, Bo, a, b, c, d⟩ := s
  have h1 := a.on_.fits
  rw [laid_used] at h1
  exact h1
theorem used_snoc (base : List UInt8) (recs : List (List UInt8)) (p : List UInt8) : usedL base (recs ++ [p]) = usedL base recs + (32 + p.length) := laid_len 0 base recs p
theorem wrap_next (i : Nat) (h : i < 60) : wrap64 ((i : Int) + 1) = ((i + 1 : Nat) : Int) := by unfold wrap64; omega
theorem meas_next (i : Nat) (h : i < 60) : 60 - (intOf (.int .i64 ((i : Int) + 1))).toNat < 60 - (intOf (.int .i64 (i : Int))).toNat := by
  show 60 - ((i : Int) + 1).toNat < 60 - (i : Int).toNat
  omega
section
variable {w : World} {B pd pj n i : Nat} {base : List UInt8} {recs : List (List UInt8)}
theorem JP.app (s : JP w B pd pj n i base recs) (hl : LaidW w) (hgB : 3 < B) (hn : 6 ≤ n ∧ n ≤ 35) (hi : i < 60) (a : Option Addr) (len cap : Nat) (p : List UInt8) (hp : IsB w a len cap p) (hold : ∀ b off, a = some ⟨b, off, none⟩ → 0 < len → b < B) (hB : B ≤ w.heap.size)
    (hfit : usedL base recs + 32 + len ≤ 256 * half n) :
    Calls Tryz.prog 11 #[.pointer (some ⟨pj, 0, none⟩), .slice a len cap] w fun e w' => e = .returned (.int .i64 0) ∧ JP w' B pd pj n (i + 1) base (recs ++ [p]) ∧ Kp jT B w w' := by
  obtain ⟨h, m, L, Bo, j, b, c, d⟩ := s
  have hh : half n ≤ 16 := by unfold half; omega
  have hlen := hp.length
  refine (j.app hl hgB b c a len cap p hp (fun b off e h0 => ⟨Nat.lt_of_lt_of_le (hold b off e h0) hB, .inl (hold b off e h0)⟩) (by omega) (by rw [laid_used]; omega) (by omega) (by omega) (by omega)).mono ?_
  rintro e w' ⟨he, ⟨L', hj⟩, hk⟩
  exact ⟨he, ⟨h, m, L', Bo, hj.more (by omega), b, Nat.le_trans c hk.size, by omega⟩, hk⟩
theorem JP.full (s : JP w B pd pj n i base recs) (hn : 6 ≤ n ∧ n ≤ 35) (a : Option Addr) (len cap : Nat) (p : List UInt8) (hp : IsB w a len cap p) (hfull : ¬ usedL base recs + 32 + len ≤ 256 * half n) :
    Calls Tryz.prog 11 #[.pointer (some ⟨pj, 0, none⟩), .slice a len cap] w fun e w' => e = .returned (.int .i64 15) ∧ Below w.heap.size w w' := by
  obtain ⟨h, m, L, Bo, j, b, c, d⟩ := s
  have hh : half n ≤ 16 := by unfold half; omega
  have hlen := hp.length
  exact j.full a len cap p hp (by rw [laid_used]; omega) (by omega)
theorem JP.reset (s : JP w B pd pj n i base recs) (hl : LaidW w) (hgB : 3 < B) (hn : 6 ≤ n ∧ n ≤ 35) (hi : i < 60) (a : Option Addr) (len cap : Nat) (p : List UInt8) (hp : IsB w a len cap p) (hB : B ≤ w.heap.size) (hfit : 32 + len ≤ 256 * half n) :
    Calls Tryz.prog 13 #[.pointer (some ⟨pj, 0, none⟩), .slice a len cap] w fun e w' => e = .returned (.int .i64 0) ∧ JP w' B pd pj n (i + 1) p [] ∧ Kp jT B w w' := by
  have hf := s.few
  obtain ⟨h, m, L, Bo, j, b, c, d⟩ := s
  have hh : half n ≤ 16 := by unfold half; omega
  have hlen := hp.length
  have hrl := On_few base recs
  refine (j.reset hl hgB hB a len cap p hp (by omega) (by omega) (by omega) (by omega) (by omega)).mono ?_
  rintro e w' ⟨he, ⟨L', hj⟩, hk⟩
  exact ⟨he, ⟨_, _, L', _, hj.more (by omega), hB, hk.size, by omega⟩, hk⟩
theorem JP.resetfull (s : JP w B pd pj n i base recs) (hn : 6 ≤ n ∧ n ≤ 35) (a : Option Addr) (len cap : Nat) (hfull : ¬ 32 + len ≤ 256 * half n) :
    Calls Tryz.prog 13 #[.pointer (some ⟨pj, 0, none⟩), .slice a len cap] w fun e w' => e = .returned (.int .i64 15) ∧ Below w.heap.size w w' := by
  obtain ⟨h, m, L, Bo, j, b, c, d⟩ := s
  have hh : half n ≤ 16 := by unfold half; omega
  exact j.resetfull a len cap (by omega) (by omega)
theorem JP.restart (s : JP w B pd pj n i base recs) (hn : 6 ≤ n ∧ n ≤ 35) (hi : i < 60) :
    Calls Tryz.prog 14 #[.pointer (some ⟨pd, 0, none⟩), .slice none 0 0, .int .i64 (-1), .int .i64 0] w fun e w' => e = .returned (.int .i64 0) ∧ Kp devT B w w' ∧
      (LaidW w' → B ≤ w'.heap.size → Calls Tryz.prog 15 #[.pointer (some ⟨pd, 0, none⟩)] w' fun e w'' => ∃ pj', e = .returned (.tuple #[.pointer (some ⟨pj', 0, none⟩), .int .i64 0]) ∧ JP w'' B pd pj' n (i + 1) base recs ∧ Below w'.heap.size w' w'') := by
  obtain ⟨h, m, L, Bo, j, b, c, d⟩ := s
  have hh : half n ≤ 16 := by unfold half; omega
  have h2 : 2 ≤ half n := by unfold half; omega
  refine j.restart.mono ?_
  rintro e w' ⟨he, hd, hk⟩
  refine ⟨he, hk, fun hl hB => (open_jn hd j.on_ hl hB h2 (by omega) (by omega)).mono ?_⟩
  rintro e w'' ⟨pj', he', hj, hb⟩
  exact ⟨pj', he', ⟨h, m, L, _, hj.more (by omega), hB, hb.size, by omega⟩, hb⟩
end
/-- What the walk knows ahead of each round's end. -/
structure St (w : World) (B pd pj pm n i : Nat) (base : List UInt8) (recs : List (List UInt8)) : Prop where
  jn : JP w B pd pj n i base recs
  mod : Mod w B pm (256 * half n) base recs
theorem St.later {w w' : World} {B pd pj pm n i : Nat} {base : List UInt8} {recs : List (List UInt8)} (s : St w B pd pj pm n i base recs) (hb : Below w.heap.size w w') : St w' B pd pj pm n i base recs := by
  exact ⟨s.jn.later hb, s.mod.later hb⟩
theorem St.few {w : World} {B pd pj pm n i : Nat} {base : List UInt8} {recs : List (List UInt8)} (s : St w B pd pj pm n i base recs) : usedL base recs ≤ 256 * half n ∧ base.length ≤ 256 * half n ∧ 32 * recs.length ≤ 256 * half n ∧ ∀ j, j < recs.length → (recs.getD j []).length ≤ 256 * half n := by
  have h1 := s.jn.few
  refine ⟨h1, ?_, ?_, fun j hj => ?_⟩
  · have := laid_base 0 base recs; unfold usedL at h1; omega
  · have := On_few base recs; omega
  · have := used_next base recs j hj
    have := used_take base recs (j + 1)
    omega
theorem St.same {w : World} {B pd pj pm n i : Nat} {base : List UInt8} {recs : List (List UInt8)} (s : St w B pd pj pm n i base recs) (hn : n ≤ 100) (a : Option Addr) (c : Nat) (ht : Txts w a recs) (hc : recs.length ≤ c ∧ c ≤ maxLen) :
    Calls Tryz.prog 16 #[.pointer (some ⟨pj, 0, none⟩), .string ⟨base.toArray⟩, .slice a recs.length c] w fun e w' => e = .returned (.bool true) ∧ Below w.heap.size w w' := by
  obtain ⟨f1, f2, f3, f4⟩ := s.few
  have hh : half n ≤ 49 := by unfold half; omega
  obtain ⟨⟨h, m, L, Bo, a1, b, c1, d⟩, e⟩ := s
  exact same_any a1 c1 (by omega) (fun i hi => by have := f4 i hi; omega) (by omega) a c ht hc
theorem St.free {w : World} {B pd pj pm n i : Nat} {base : List UInt8} {recs : List (List UInt8)} (s : St w B pd pj pm n i base recs) (hn : n ≤ 100) :
    Calls Tryz.prog 17 #[.pointer (some ⟨pj, 0, none⟩)] w fun e w' => e = .returned (.int .i64 ((256 * half n - usedL base recs - 32 : Nat) : Int)) ∧ Below w.heap.size w w' := by
  have hh : half n ≤ 49 := by unfold half; omega
  obtain ⟨⟨h, m, L, Bo, a1, b, c1, d⟩, e⟩ := s
  have := a1.free (by omega)
  rw [laid_used] at this
  exact this
theorem St.mfree {w : World} {B pd pj pm n i : Nat} {base : List UInt8} {recs : List (List UInt8)} (s : St w B pd pj pm n i base recs) (hn : n ≤ 100) :
    Calls Tryz.prog 18 #[.pointer (some ⟨pm, 0, none⟩)] w fun e w' => e = .returned (.int .i64 ((256 * half n - usedL base recs - 32 : Nat) : Int)) ∧ Below w.heap.size w w' := by
  have hh : half n ≤ 49 := by unfold half; omega
  exact mfree_any s.mod s.few.1 (by omega)
theorem St.fits {w : World} {B pd pj pm n i : Nat} {base : List UInt8} {recs : List (List UInt8)} (s : St w B pd pj pm n i base recs) (hn : n ≤ 100) (k : Nat) :
    Calls Tryz.prog 12 #[.pointer (some ⟨pm, 0, none⟩), .int .i64 (k : Int)] w fun e w' => e = .returned (.bool (decide (usedL base recs + 32 + k ≤ 256 * half n))) ∧ Below w.heap.size w w' := by
  have hh : half n ≤ 49 := by unfold half; omega
  exact fits_any s.mod s.few.1 (by omega) k
theorem St.room {w : World} {B pd pj pm n i : Nat} {base : List UInt8} {recs : List (List UInt8)} (s : St w B pd pj pm n i base recs) :
    Calls Tryz.prog 19 #[.pointer (some ⟨pj, 0, none⟩)] w fun e w' => e = .returned (.int .i64 ((256 * half n : Nat) : Int)) ∧ w = w' := by
  obtain ⟨⟨h, m, L, Bo, a1, b, c1, d⟩, e⟩ := s
  exact a1.room

set_option maxHeartbeats 4000000 in
theorem tail36 {v : World} {B pd pj pm n i RM : Nat} {bs : List UInt8} {rs : List (List UInt8)} (hst : St v B pd pj pm n i bs rs) (hRM : RM = 256 * half n) (hn : 6 ≤ n ∧ n ≤ 35) {u0 u1 u2 u3 u4 u5 u6 u9 u10 u11 u12 u13 u14 u15 u16 u17 u18 u19 u20 u21 u22 u23 u24 u25 u26 u27 u28 u29 u30 u31 u32 u33 u34 u35 u36 u37 u38 u39 u40 u41 u42 u43 u44 u45 u46 u47 u48 u49 u50 u51 u52 u53 u54 u55 u56 u57 u58 u59 u60 u61 u62 u63 u64 u65 u66 u67 u68 u69 u70 u71 u72 u73 u74 u75 u76 u77 u78 u79 u80 u81 u82 u83 u84 u85 u86 u87 u88 u89 u90 u91 u92 u93 u94 u95 u96 u97 u98 u99 u100 u101 u102 u103 u104 u105 u106 u107 u108 u109 u110 u111 u112 u113 u114 u115 u116 u117 u118 u119 u120 u121 u122 u123 u124 u125 u126 u127 u128 u129 u130 u131 u132 u133 u134 u135 u136 u137 u138 u139 u140 u141 u142 u143 u144 : Value} {K : Exit → Act → World → Prop} (hp : ∀ c (a : Act) ts w, K (.panic c) { a with tmps := ts } w → K (.panic c) a w)
    (hk : ∀ (v' : World) (ra : Option Addr) (rc F : Nat), Below v.heap.size v v' → K .normal ⟨#[u0, u1, u2, u3, u4, u5, u6, .pointer (some ⟨pj, 0, none⟩), .pointer (some ⟨pm, 0, none⟩), u9, u10, u11, u12, u13, u14, u15, u16, u17, u18, u19, u20, u21, u22, u23, u24, u25, u26, u27, u28, u29, u30, u31, u32, u33, u34, u35, u36, u37, u38, u39, u40, u41, u42, u43, u44, u45, u46, u47, u48, u49, u50, u51, u52, u53, u54, u55, u56, u57, u58, u59, u60, u61, u62, u63, u64, u65, u66, u67, u68, u69, u70, u71, u72, u73, u74, u75, u76, u77, u78, u79, u80, u81, u82, u83, u84, u85, u86, u87, u88, u89, u90, u91, u92, u93, u94, u95, u96, u97, u98, u99, u100, u101, u102, u103, u104, u105, u106, u107, u108, u109, u110, u111, u112, u113, u114, u115, u116, u117, .pointer (some ⟨pj, 0, none⟩), .pointer (some ⟨pm, 0, none⟩), .pointer (some ⟨pm, 0, none⟩), .pointer (some ⟨pm, 0, none⟩), .string ⟨bs.toArray⟩, .pointer (some ⟨pm, 0, none⟩), .pointer (some ⟨pm, 0, none⟩), .pointer (some ⟨pm, 1, none⟩), .slice ra rs.length rc, .bool true, .bool false, .bool false, .pointer (some ⟨pj, 0, none⟩), .int .i64 (F : Int), .pointer (some ⟨pm, 0, none⟩), .int .i64 (F : Int), .bool false, .bool false, .bool false, .pointer (some ⟨pj, 0, none⟩), .int .i64 (RM : Int), .pointer (some ⟨pm, 0, none⟩), .pointer (some ⟨pm, 0, none⟩), .pointer (some ⟨pm, 2, none⟩), .int .i64 (RM : Int), .bool false, .bool false], []⟩ v') :
    (Code.region 36 #[{ dst := some 118, op := Op.move (Operand.tmp 7), type := 25, pos := "law.go:126", after := #[], guard := none }, { dst := some 119, op := Op.move (Operand.tmp 8), type := 28, pos := "law.go:126", after := #[], guard := none }, { dst := some 120, op := Op.nilCheck (Operand.tmp 119), type := 0, pos := "law.go:126", after := #[{ on := 1, ground := Ground.data }], guard := none }, { dst := some 121, op := Op.fieldAddr 32 (Operand.tmp 120) 0, type := 0, pos := "law.go:126", after := #[{ on := 2, ground := Ground.data }], guard := none }, { dst := some 122, op := Op.load 9 (Operand.tmp 121), type := 9, pos := "law.go:126", after := #[{ on := 3, ground := Ground.data }], guard := none }, { dst := some 123, op := Op.move (Operand.tmp 8), type := 28, pos := "law.go:126", after := #[], guard := none }, { dst := some 124, op := Op.nilCheck (Operand.tmp 123), type := 0, pos := "law.go:126", after := #[{ on := 5, ground := Ground.data }], guard := none }, { dst := some 125, op := Op.fieldAddr 32 (Operand.tmp 124) 1, type := 0, pos := "law.go:126", after := #[{ on := 6, ground := Ground.data }], guard := none }, { dst := some 126, op := Op.load 30 (Operand.tmp 125), type := 30, pos := "law.go:126", after := #[{ on := 7, ground := Ground.data }], guard := none }, { dst := some 127, op := Op.call { callee := Callee.value (Operand.func 16), args := #[Operand.tmp 118, Operand.tmp 122, Operand.tmp 126], argTypes := #[25, 9, 30] }, type := 4, pos := "law.go:126", after := #[{ on := 0, ground := Ground.data }, { on := 4, ground := Ground.data }, { on := 8, ground := Ground.data }], guard := none }, { dst := some 128, op := Op.unOp UnOp.not 4 (Operand.tmp 127), type := 4, pos := "law.go:126", after := #[{ on := 9, ground := Ground.data }], guard := none }, { dst := some 129, op := Op.move (Operand.tmp 128), type := 4, pos := "law.go:126", after := #[{ on := 10, ground := Ground.data }, { on := 9, ground := Ground.chain }], guard := none }, { dst := some 130, op := Op.move (Operand.tmp 7), type := 25, pos := "law.go:126", after := #[{ on := 11, ground := Ground.guard }], guard := some (11, false) }, { dst := some 131, op := Op.call { callee := Callee.value (Operand.func 17), args := #[Operand.tmp 130], argTypes := #[25] }, type := 3, pos := "law.go:126", after := #[{ on := 12, ground := Ground.data }, { on := 11, ground := Ground.chain }, { on := 11, ground := Ground.guard }], guard := some (11, false) }, { dst := some 132, op := Op.move (Operand.tmp 8), type := 28, pos := "law.go:126", after := #[{ on := 11, ground := Ground.guard }], guard := some (11, false) }, { dst := some 133, op := Op.call { callee := Callee.value (Operand.func 18), args := #[Operand.tmp 132], argTypes := #[28] }, type := 3, pos := "law.go:126", after := #[{ on := 14, ground := Ground.data }, { on := 13, ground := Ground.chain }, { on := 11, ground := Ground.guard }], guard := some (11, false) }, { dst := some 134, op := Op.binOp BinOp.neq 3 (Operand.tmp 131) (Operand.tmp 133) 3, type := 4, pos := "law.go:126", after := #[{ on := 13, ground := Ground.data }, { on := 15, ground := Ground.data }, { on := 11, ground := Ground.guard }], guard := some (11, false) }, { dst := some 135, op := Op.pick (Operand.tmp 129) (Operand.const (Value.bool true)) (Operand.tmp 134), type := 4, pos := "law.go:126", after := #[{ on := 11, ground := Ground.data }, { on := 16, ground := Ground.data }], guard := none }, { dst := some 136, op := Op.move (Operand.tmp 135), type := 4, pos := "law.go:126", after := #[{ on := 17, ground := Ground.data }, { on := 15, ground := Ground.chain }], guard := none }, { dst := some 137, op := Op.move (Operand.tmp 7), type := 25, pos := "law.go:126", after := #[{ on := 18, ground := Ground.guard }], guard := some (18, false) }, { dst := some 138, op := Op.call { callee := Callee.value (Operand.func 19), args := #[Operand.tmp 137], argTypes := #[25] }, type := 3, pos := "law.go:126", after := #[{ on := 19, ground := Ground.data }, { on := 18, ground := Ground.chain }, { on := 18, ground := Ground.guard }], guard := some (18, false) }, { dst := some 139, op := Op.move (Operand.tmp 8), type := 28, pos := "law.go:126", after := #[{ on := 18, ground := Ground.guard }], guard := some (18, false) }, { dst := some 140, op := Op.nilCheck (Operand.tmp 139), type := 0, pos := "law.go:126", after := #[{ on := 21, ground := Ground.data }, { on := 18, ground := Ground.guard }], guard := some (18, false) }, { dst := some 141, op := Op.fieldAddr 32 (Operand.tmp 140) 2, type := 0, pos := "law.go:126", after := #[{ on := 22, ground := Ground.data }, { on := 18, ground := Ground.guard }], guard := some (18, false) }, { dst := some 142, op := Op.load 3 (Operand.tmp 141), type := 3, pos := "law.go:126", after := #[{ on := 23, ground := Ground.data }, { on := 18, ground := Ground.guard }], guard := some (18, false) }, { dst := some 143, op := Op.binOp BinOp.neq 3 (Operand.tmp 138) (Operand.tmp 142) 3, type := 4, pos := "law.go:126", after := #[{ on := 20, ground := Ground.data }, { on := 24, ground := Ground.data }, { on := 18, ground := Ground.guard }], guard := some (18, false) }, { dst := some 144, op := Op.pick (Operand.tmp 136) (Operand.const (Value.bool true)) (Operand.tmp 143), type := 4, pos := "law.go:126", after := #[{ on := 18, ground := Ground.data }, { on := 25, ground := Ground.data }], guard := none }] true).wp Tryz.prog K ⟨#[u0, u1, u2, u3, u4, u5, u6, .pointer (some ⟨pj, 0, none⟩), .pointer (some ⟨pm, 0, none⟩), u9, u10, u11, u12, u13, u14, u15, u16, u17, u18, u19, u20, u21, u22, u23, u24, u25, u26, u27, u28, u29, u30, u31, u32, u33, u34, u35, u36, u37, u38, u39, u40, u41, u42, u43, u44, u45, u46, u47, u48, u49, u50, u51, u52, u53, u54, u55, u56, u57, u58, u59, u60, u61, u62, u63, u64, u65, u66, u67, u68, u69, u70, u71, u72, u73, u74, u75, u76, u77, u78, u79, u80, u81, u82, u83, u84, u85, u86, u87, u88, u89, u90, u91, u92, u93, u94, u95, u96, u97, u98, u99, u100, u101, u102, u103, u104, u105, u106, u107, u108, u109, u110, u111, u112, u113, u114, u115, u116, u117, u118, u119, u120, u121, u122, u123, u124, u125, u126, u127, u128, u129, u130, u131, u132, u133, u134, u135, u136, u137, u138, u139, u140, u141, u142, u143, u144], []⟩ v := by
  have ST := Lib.hid hst
  have HRM := Lib.hid hRM
  obtain ⟨⟨rV, hbx, hown⟩, _⟩ := hst.mod
  obtain ⟨ra, rc, rfl, hrc, hrm, htx⟩ := own_txts hown
  have HTX := Lib.hid htx
  have HRC : Hid (rs.length ≤ rc ∧ rc ≤ maxLen) := Lib.hid ⟨hrc, hrm⟩
  rw [← hRM] at hbx
  have KP : Hid (∀ X, Below v.heap.size v X → Has X pm (mC bs (.slice ra rs.length rc) RM) tMod) := Lib.hid (fun X hX => (hX.block pm hbx.lt).trans hbx)
  have N100 : Hid (n ≤ 100) := Lib.hid (by omega)
  obtain ⟨F, hF⟩ : ∃ F, F = RM - usedL bs rs - 32 := ⟨_, rfl⟩
  have HSA : Hid (∀ X, Below v.heap.size v X → Calls Tryz.prog 16 #[.pointer (some ⟨pj, 0, none⟩), .string ⟨bs.toArray⟩, .slice ra rs.length rc] X fun e w' => e = .returned (.bool true) ∧ Below X.heap.size X w') := Lib.hid (fun X hX => (ST.out.later hX).same N100.out ra rc (HTX.out.later hX) HRC.out)
  have HFR : Hid (∀ X, Below v.heap.size v X → Calls Tryz.prog 17 #[.pointer (some ⟨pj, 0, none⟩)] X fun e w' => e = .returned (.int .i64 (F : Int)) ∧ Below X.heap.size X w') := Lib.hid (fun X hX => by rw [hF, HRM.out]; exact (ST.out.later hX).free N100.out)
  have HMF : Hid (∀ X, Below v.heap.size v X → Calls Tryz.prog 18 #[.pointer (some ⟨pm, 0, none⟩)] X fun e w' => e = .returned (.int .i64 (F : Int)) ∧ Below X.heap.size X w') := Lib.hid (fun X hX => by rw [hF, HRM.out]; exact (ST.out.later hX).mfree N100.out)
  have HRO : Hid (∀ X, Below v.heap.size v X → Calls Tryz.prog 19 #[.pointer (some ⟨pj, 0, none⟩)] X fun e w' => e = .returned (.int .i64 (RM : Int)) ∧ X = w') := Lib.hid (fun X hX => by rw [HRM.out]; exact (ST.out.later hX).room)
  have HP := Lib.hid hp
  have HKK := Lib.hid hk
  clear hbx hown hrc hrm htx hF hst hRM hn hk hp
  refine wp_region_held_drew (S := fun X => Has X pm (mC bs (.slice ra rs.length rc) RM) tMod) (by kernel_rfl) (KP.out _ (Below.refl _ _).drew) (fun hHeld => ?_)
  refine wpAnyH_take (i := 0) (oi := { dst := some 118, op := Op.move (Operand.tmp 7), type := 25, pos := "law.go:126", after := #[], guard := none }) (v := .pointer (some ⟨pj, 0, none⟩)) rfl (by kernel_rfl) (by kernel_rfl) (by kernel_rfl) (fun _ _ _ h => HP.out _ _ _ _ h)
    (Or.inl ⟨by rfl, by intro w hSw;  clear hSw; go_simp⟩) hHeld ?_
  try simp only [Act.put, List.setIfInBounds_toArray, List.set_cons_zero, List.set_cons_succ]
  refine wpAnyH_take (i := 1) (oi := { dst := some 119, op := Op.move (Operand.tmp 8), type := 28, pos := "law.go:126", after := #[], guard := none }) (v := .pointer (some ⟨pm, 0, none⟩)) rfl (by kernel_rfl) (by kernel_rfl) (by kernel_rfl) (fun _ _ _ h => HP.out _ _ _ _ h)
    (Or.inl ⟨by rfl, by intro w hSw;  clear hSw; go_simp⟩) hHeld ?_
  try simp only [Act.put, List.setIfInBounds_toArray, List.set_cons_zero, List.set_cons_succ]
  refine wpAnyH_take (i := 2) (oi := { dst := some 120, op := Op.nilCheck (Operand.tmp 119), type := 0, pos := "law.go:126", after := #[{ on := 1, ground := Ground.data }], guard := none }) (v := .pointer (some ⟨pm, 0, none⟩)) rfl (by kernel_rfl) (by kernel_rfl) (by kernel_rfl) (fun _ _ _ h => HP.out _ _ _ _ h)
    (Or.inl ⟨by rfl, by intro w hSw;  clear hSw; go_simp⟩) hHeld ?_
  try simp only [Act.put, List.setIfInBounds_toArray, List.set_cons_zero, List.set_cons_succ]
  refine wpAnyH_take (i := 3) (oi := { dst := some 121, op := Op.fieldAddr 32 (Operand.tmp 120) 0, type := 0, pos := "law.go:126", after := #[{ on := 2, ground := Ground.data }], guard := none }) (v := .pointer (some ⟨pm, 0, none⟩)) rfl (by kernel_rfl) (by kernel_rfl) (by kernel_rfl) (fun _ _ _ h => HP.out _ _ _ _ h)
    (Or.inl ⟨by rfl, by intro w hSw;  clear hSw; go_simp⟩) hHeld ?_
  try simp only [Act.put, List.setIfInBounds_toArray, List.set_cons_zero, List.set_cons_succ]
  refine wpAnyH_take (i := 4) (oi := { dst := some 122, op := Op.load 9 (Operand.tmp 121), type := 9, pos := "law.go:126", after := #[{ on := 3, ground := Ground.data }], guard := none }) (v := .string ⟨bs.toArray⟩) rfl (by kernel_rfl) (by kernel_rfl) (by kernel_rfl) (fun _ _ _ h => HP.out _ _ _ _ h)
    (Or.inl ⟨by rfl, by intro w hSw; have s0 : w.cell? ⟨pm, 0, none⟩ = some (.string ⟨bs.toArray⟩) := hSw.cellAt (i := 0) rfl; clear hSw; go_simp⟩) hHeld ?_
  try simp only [Act.put, List.setIfInBounds_toArray, List.set_cons_zero, List.set_cons_succ]
  refine wpAnyH_take (i := 5) (oi := { dst := some 123, op := Op.move (Operand.tmp 8), type := 28, pos := "law.go:126", after := #[], guard := none }) (v := .pointer (some ⟨pm, 0, none⟩)) rfl (by kernel_rfl) (by kernel_rfl) (by kernel_rfl) (fun _ _ _ h => HP.out _ _ _ _ h)
    (Or.inl ⟨by rfl, by intro w hSw;  clear hSw; go_simp⟩) hHeld ?_
  try simp only [Act.put, List.setIfInBounds_toArray, List.set_cons_zero, List.set_cons_succ]
  refine wpAnyH_take (i := 6) (oi := { dst := some 124, op := Op.nilCheck (Operand.tmp 123), type := 0, pos := "law.go:126", after := #[{ on := 5, ground := Ground.data }], guard := none }) (v := .pointer (some ⟨pm, 0, none⟩)) rfl (by kernel_rfl) (by kernel_rfl) (by kernel_rfl) (fun _ _ _ h => HP.out _ _ _ _ h)
    (Or.inl ⟨by rfl, by intro w hSw;  clear hSw; go_simp⟩) hHeld ?_
  try simp only [Act.put, List.setIfInBounds_toArray, List.set_cons_zero, List.set_cons_succ]
  refine wpAnyH_take (i := 7) (oi := { dst := some 125, op := Op.fieldAddr 32 (Operand.tmp 124) 1, type := 0, pos := "law.go:126", after := #[{ on := 6, ground := Ground.data }], guard := none }) (v := .pointer (some ⟨pm, 1, none⟩)) rfl (by kernel_rfl) (by kernel_rfl) (by kernel_rfl) (fun _ _ _ h => HP.out _ _ _ _ h)
    (Or.inl ⟨by rfl, by intro w hSw;  clear hSw; go_simp⟩) hHeld ?_
  try simp only [Act.put, List.setIfInBounds_toArray, List.set_cons_zero, List.set_cons_succ]
  refine wpAnyH_take (i := 8) (oi := { dst := some 126, op := Op.load 30 (Operand.tmp 125), type := 30, pos := "law.go:126", after := #[{ on := 7, ground := Ground.data }], guard := none }) (v := .slice ra rs.length rc) rfl (by kernel_rfl) (by kernel_rfl) (by kernel_rfl) (fun _ _ _ h => HP.out _ _ _ _ h)
    (Or.inl ⟨by rfl, by intro w hSw; have s1 := hSw.cellAt (i := 1) rfl; clear hSw; go_simp⟩) hHeld ?_
  try simp only [Act.put, List.setIfInBounds_toArray, List.set_cons_zero, List.set_cons_succ]
  refine wpAnyH_ready (rs := [9]) (by kernel_rfl) (by simp) ?_
  refine AllReadyH.cons (o := { dst := some 127, op := Op.call { callee := Callee.value (Operand.func 16), args := #[Operand.tmp 118, Operand.tmp 122, Operand.tmp 126], argTypes := #[25, 9, 30] }, type := 4, pos := "law.go:126", after := #[{ on := 0, ground := Ground.data }, { on := 4, ground := Ground.data }, { on := 8, ground := Ground.data }], guard := none }) rfl (fun K hK => ?_) AllReadyH.nil
  go_simp
  refine (HSA.out v.drew ((Below.refl v.heap.size v).drew)).mono ?_
  rintro e y1 ⟨rfl, hy1⟩
  have Y1 : Hid (Below v.heap.size v y1) := Lib.hid (((Below.refl v.heap.size v).drew).trans (hy1.mono ((Below.refl v.heap.size v).drew).size))
  clear hy1
  refine hK.out _ _ (KP.out _ (Y1.out)) (fun hHw1 => ?_)
  clear hK hHeld
  try simp only [Act.put, List.setIfInBounds_toArray, List.set_cons_zero, List.set_cons_succ]
  refine wpAnyH_take (i := 10) (oi := { dst := some 128, op := Op.unOp UnOp.not 4 (Operand.tmp 127), type := 4, pos := "law.go:126", after := #[{ on := 9, ground := Ground.data }], guard := none }) (v := .bool false) rfl (by kernel_rfl) (by kernel_rfl) (by kernel_rfl) (fun _ _ _ h => HP.out _ _ _ _ h)
    (Or.inl ⟨by rfl, by intro w hSw;  clear hSw; go_simp⟩) hHw1 ?_
  try simp only [Act.put, List.setIfInBounds_toArray, List.set_cons_zero, List.set_cons_succ]
  refine wpAnyH_take (i := 11) (oi := { dst := some 129, op := Op.move (Operand.tmp 128), type := 4, pos := "law.go:126", after := #[{ on := 10, ground := Ground.data }, { on := 9, ground := Ground.chain }], guard := none }) (v := .bool false) rfl (by kernel_rfl) (by kernel_rfl) (by kernel_rfl) (fun _ _ _ h => HP.out _ _ _ _ h)
    (Or.inl ⟨by rfl, by intro w hSw;  clear hSw; go_simp⟩) hHw1 ?_
  try simp only [Act.put, List.setIfInBounds_toArray, List.set_cons_zero, List.set_cons_succ]
  refine wpAnyH_take (i := 12) (oi := { dst := some 130, op := Op.move (Operand.tmp 7), type := 25, pos := "law.go:126", after := #[{ on := 11, ground := Ground.guard }], guard := some (11, false) }) (v := .pointer (some ⟨pj, 0, none⟩)) rfl (by kernel_rfl) (by kernel_rfl) (by kernel_rfl) (fun _ _ _ h => HP.out _ _ _ _ h)
    (Or.inl ⟨by rfl, by intro w hSw;  clear hSw; go_simp⟩) hHw1 ?_
  try simp only [Act.put, List.setIfInBounds_toArray, List.set_cons_zero, List.set_cons_succ]
  refine wpAnyH_take (i := 14) (oi := { dst := some 132, op := Op.move (Operand.tmp 8), type := 28, pos := "law.go:126", after := #[{ on := 11, ground := Ground.guard }], guard := some (11, false) }) (v := .pointer (some ⟨pm, 0, none⟩)) rfl (by kernel_rfl) (by kernel_rfl) (by kernel_rfl) (fun _ _ _ h => HP.out _ _ _ _ h)
    (Or.inl ⟨by rfl, by intro w hSw;  clear hSw; go_simp⟩) hHw1 ?_
  try simp only [Act.put, List.setIfInBounds_toArray, List.set_cons_zero, List.set_cons_succ]
  refine wpAnyH_ready (rs := [13]) (by kernel_rfl) (by simp) ?_
  refine AllReadyH.cons (o := { dst := some 131, op := Op.call { callee := Callee.value (Operand.func 17), args := #[Operand.tmp 130], argTypes := #[25] }, type := 3, pos := "law.go:126", after := #[{ on := 12, ground := Ground.data }, { on := 11, ground := Ground.chain }, { on := 11, ground := Ground.guard }], guard := some (11, false) }) rfl (fun K hK => ?_) AllReadyH.nil
  go_simp
  refine (HFR.out y1 (Y1.out)).mono ?_
  rintro e y2 ⟨rfl, hy2⟩
  have Y2 : Hid (Below v.heap.size v y2) := Lib.hid ((Y1.out).trans (hy2.mono (Y1.out).size))
  clear hy2
  refine hK.out _ _ (KP.out _ (Y2.out)) (fun hHw2 => ?_)
  clear hK hHw1
  try simp only [Act.put, List.setIfInBounds_toArray, List.set_cons_zero, List.set_cons_succ]
  refine wpAnyH_ready (rs := [15]) (by kernel_rfl) (by simp) ?_
  refine AllReadyH.cons (o := { dst := some 133, op := Op.call { callee := Callee.value (Operand.func 18), args := #[Operand.tmp 132], argTypes := #[28] }, type := 3, pos := "law.go:126", after := #[{ on := 14, ground := Ground.data }, { on := 13, ground := Ground.chain }, { on := 11, ground := Ground.guard }], guard := some (11, false) }) rfl (fun K hK => ?_) AllReadyH.nil
  go_simp
  refine (HMF.out y2 (Y2.out)).mono ?_
  rintro e y3 ⟨rfl, hy3⟩
  have Y3 : Hid (Below v.heap.size v y3) := Lib.hid ((Y2.out).trans (hy3.mono (Y2.out).size))
  clear hy3
  refine hK.out _ _ (KP.out _ (Y3.out)) (fun hHw3 => ?_)
  clear hK hHw2
  try simp only [Act.put, List.setIfInBounds_toArray, List.set_cons_zero, List.set_cons_succ]
  refine wpAnyH_take (i := 16) (oi := { dst := some 134, op := Op.binOp BinOp.neq 3 (Operand.tmp 131) (Operand.tmp 133) 3, type := 4, pos := "law.go:126", after := #[{ on := 13, ground := Ground.data }, { on := 15, ground := Ground.data }, { on := 11, ground := Ground.guard }], guard := some (11, false) }) (v := .bool false) rfl (by kernel_rfl) (by kernel_rfl) (by kernel_rfl) (fun _ _ _ h => HP.out _ _ _ _ h)
    (Or.inl ⟨by rfl, by intro w hSw;  clear hSw; go_simp⟩) hHw3 ?_
  try simp only [Act.put, List.setIfInBounds_toArray, List.set_cons_zero, List.set_cons_succ]
  refine wpAnyH_take (i := 17) (oi := { dst := some 135, op := Op.pick (Operand.tmp 129) (Operand.const (Value.bool true)) (Operand.tmp 134), type := 4, pos := "law.go:126", after := #[{ on := 11, ground := Ground.data }, { on := 16, ground := Ground.data }], guard := none }) (v := .bool false) rfl (by kernel_rfl) (by kernel_rfl) (by kernel_rfl) (fun _ _ _ h => HP.out _ _ _ _ h)
    (Or.inl ⟨by rfl, by intro w hSw;  clear hSw; go_simp⟩) hHw3 ?_
  try simp only [Act.put, List.setIfInBounds_toArray, List.set_cons_zero, List.set_cons_succ]
  refine wpAnyH_take (i := 18) (oi := { dst := some 136, op := Op.move (Operand.tmp 135), type := 4, pos := "law.go:126", after := #[{ on := 17, ground := Ground.data }, { on := 15, ground := Ground.chain }], guard := none }) (v := .bool false) rfl (by kernel_rfl) (by kernel_rfl) (by kernel_rfl) (fun _ _ _ h => HP.out _ _ _ _ h)
    (Or.inl ⟨by rfl, by intro w hSw;  clear hSw; go_simp⟩) hHw3 ?_
  try simp only [Act.put, List.setIfInBounds_toArray, List.set_cons_zero, List.set_cons_succ]
  refine wpAnyH_take (i := 19) (oi := { dst := some 137, op := Op.move (Operand.tmp 7), type := 25, pos := "law.go:126", after := #[{ on := 18, ground := Ground.guard }], guard := some (18, false) }) (v := .pointer (some ⟨pj, 0, none⟩)) rfl (by kernel_rfl) (by kernel_rfl) (by kernel_rfl) (fun _ _ _ h => HP.out _ _ _ _ h)
    (Or.inl ⟨by rfl, by intro w hSw;  clear hSw; go_simp⟩) hHw3 ?_
  try simp only [Act.put, List.setIfInBounds_toArray, List.set_cons_zero, List.set_cons_succ]
  refine wpAnyH_take (i := 21) (oi := { dst := some 139, op := Op.move (Operand.tmp 8), type := 28, pos := "law.go:126", after := #[{ on := 18, ground := Ground.guard }], guard := some (18, false) }) (v := .pointer (some ⟨pm, 0, none⟩)) rfl (by kernel_rfl) (by kernel_rfl) (by kernel_rfl) (fun _ _ _ h => HP.out _ _ _ _ h)
    (Or.inl ⟨by rfl, by intro w hSw;  clear hSw; go_simp⟩) hHw3 ?_
  try simp only [Act.put, List.setIfInBounds_toArray, List.set_cons_zero, List.set_cons_succ]
  refine wpAnyH_take (i := 22) (oi := { dst := some 140, op := Op.nilCheck (Operand.tmp 139), type := 0, pos := "law.go:126", after := #[{ on := 21, ground := Ground.data }, { on := 18, ground := Ground.guard }], guard := some (18, false) }) (v := .pointer (some ⟨pm, 0, none⟩)) rfl (by kernel_rfl) (by kernel_rfl) (by kernel_rfl) (fun _ _ _ h => HP.out _ _ _ _ h)
    (Or.inl ⟨by rfl, by intro w hSw;  clear hSw; go_simp⟩) hHw3 ?_
  try simp only [Act.put, List.setIfInBounds_toArray, List.set_cons_zero, List.set_cons_succ]
  refine wpAnyH_take (i := 23) (oi := { dst := some 141, op := Op.fieldAddr 32 (Operand.tmp 140) 2, type := 0, pos := "law.go:126", after := #[{ on := 22, ground := Ground.data }, { on := 18, ground := Ground.guard }], guard := some (18, false) }) (v := .pointer (some ⟨pm, 2, none⟩)) rfl (by kernel_rfl) (by kernel_rfl) (by kernel_rfl) (fun _ _ _ h => HP.out _ _ _ _ h)
    (Or.inl ⟨by rfl, by intro w hSw;  clear hSw; go_simp⟩) hHw3 ?_
  try simp only [Act.put, List.setIfInBounds_toArray, List.set_cons_zero, List.set_cons_succ]
  refine wpAnyH_take (i := 24) (oi := { dst := some 142, op := Op.load 3 (Operand.tmp 141), type := 3, pos := "law.go:126", after := #[{ on := 23, ground := Ground.data }, { on := 18, ground := Ground.guard }], guard := some (18, false) }) (v := .int .i64 (RM : Int)) rfl (by kernel_rfl) (by kernel_rfl) (by kernel_rfl) (fun _ _ _ h => HP.out _ _ _ _ h)
    (Or.inl ⟨by rfl, by intro w hSw; have s2 := hSw.cellAt (i := 2) rfl; clear hSw; go_simp⟩) hHw3 ?_
  try simp only [Act.put, List.setIfInBounds_toArray, List.set_cons_zero, List.set_cons_succ]
  refine wpAnyH_ready (rs := [20]) (by kernel_rfl) (by simp) ?_
  refine AllReadyH.cons (o := { dst := some 138, op := Op.call { callee := Callee.value (Operand.func 19), args := #[Operand.tmp 137], argTypes := #[25] }, type := 3, pos := "law.go:126", after := #[{ on := 19, ground := Ground.data }, { on := 18, ground := Ground.chain }, { on := 18, ground := Ground.guard }], guard := some (18, false) }) rfl (fun K hK => ?_) AllReadyH.nil
  go_simp
  refine (HRO.out y3 (Y3.out)).mono ?_
  rintro e y0 ⟨rfl, rfl⟩
  refine hK.out _ _ (KP.out _ (Y3.out)) (fun hHw4 => ?_)
  clear hK hHw3
  try simp only [Act.put, List.setIfInBounds_toArray, List.set_cons_zero, List.set_cons_succ]
  refine wpAnyH_take (i := 25) (oi := { dst := some 143, op := Op.binOp BinOp.neq 3 (Operand.tmp 138) (Operand.tmp 142) 3, type := 4, pos := "law.go:126", after := #[{ on := 20, ground := Ground.data }, { on := 24, ground := Ground.data }, { on := 18, ground := Ground.guard }], guard := some (18, false) }) (v := .bool false) rfl (by kernel_rfl) (by kernel_rfl) (by kernel_rfl) (fun _ _ _ h => HP.out _ _ _ _ h)
    (Or.inl ⟨by rfl, by intro w hSw;  clear hSw; go_simp⟩) hHw4 ?_
  try simp only [Act.put, List.setIfInBounds_toArray, List.set_cons_zero, List.set_cons_succ]
  refine wpAnyH_take (i := 26) (oi := { dst := some 144, op := Op.pick (Operand.tmp 136) (Operand.const (Value.bool true)) (Operand.tmp 143), type := 4, pos := "law.go:126", after := #[{ on := 18, ground := Ground.data }, { on := 25, ground := Ground.data }], guard := none }) (v := .bool false) rfl (by kernel_rfl) (by kernel_rfl) (by kernel_rfl) (fun _ _ _ h => HP.out _ _ _ _ h)
    (Or.inl ⟨by rfl, by intro w hSw;  clear hSw; go_simp⟩) hHw4 ?_
  try simp only [Act.put, List.setIfInBounds_toArray, List.set_cons_zero, List.set_cons_succ]
  refine wpAnyH_done (by kernel_rfl) ?_ _
  clear hHw4
  exact HKK.out _ ra rc F (Y3.out)

set_option maxHeartbeats 4000000 in
theorem add25 {W w6 : World} {B pd pj pm n i RM G : Nat} {base P : List UInt8} {recs : List (List UInt8)} {z N : Int} {pa : Option Addr} {pl pc : Nat} {ka : Option Addr} {kl kc : Nat} {torn cut : Int} (hJ : JP w6 B pd pj n (i + 1) base (recs ++ [P])) (hM : Mod w6 B pm (256 * half n) base recs) (hG : Has w6 G (jactL z N pa pl pc ka kl kc torn cut) tAct) (hIB : IsB W pa pl pc P) (hBW : Below W.heap.size W w6) (hWB : W.heap.size ≤ B) (hSZ : B ≤ w6.heap.size) (hRM : RM = 256 * half n) (hRL : recs.length ≤ 1000000) {u0 u1 u2 u3 u4 u5 u6 u7 u9 u11 u12 u13 u14 u15 u16 u17 u18 u19 u20 u21 u22 u23 u24 u25 u26 u27 u28 u29 u30 u31 u32 u33 u34 u35 u36 u37 u38 u39 u40 u41 u42 u43 u44 u45 u46 u47 u48 u49 u50 u51 u52 u53 u54 u55 u56 u57 u58 u59 u60 u61 u62 u63 u64 u65 u66 u67 u68 u69 u70 u71 u72 u73 u74 u75 u76 u77 u78 u79 u80 u81 u82 u83 u84 u85 u86 u87 u88 u89 u90 u91 u92 u93 u94 u95 u96 u97 u98 u99 u100 u101 u102 u103 u104 u105 u106 u107 u108 u109 u110 u111 u112 u113 u114 u115 u116 u117 u118 u119 u120 u121 u122 u123 u124 u125 u126 u127 u128 u129 u130 u131 u132 u133 u134 u135 u136 u137 u138 u139 u140 u141 u142 u143 u144 : Value} {K : Exit → Act → World → Prop} (hp : ∀ c (a : Act) ts w, K (.panic c) { a with tmps := ts } w → K (.panic c) a w)
    (hk : ∀ (v' : World) (ra : Option Addr) (rn rc ga ca bl : Nat) (T : ByteArray), St v' B pd pj pm n (i + 1) base (recs ++ [P]) → Below W.heap.size W v' → B ≤ v'.heap.size → K .normal ⟨#[u0, u1, u2, u3, u4, u5, u6, u7, .pointer (some ⟨pm, 0, none⟩), u9, .pointer (some ⟨G, 0, none⟩), u11, u12, u13, u14, u15, u16, u17, u18, u19, u20, u21, u22, u23, u24, u25, u26, u27, u28, u29, u30, u31, u32, u33, u34, u35, u36, u37, u38, u39, u40, u41, u42, u43, u44, u45, u46, u47, u48, u49, u50, u51, u52, u53, u54, u55, u56, u57, u58, u59, u60, u61, u62, u63, u64, u65, u66, u67, u68, u69, u70, u71, u72, u73, u74, u75, .pointer (some ⟨pm, 0, none⟩), .pointer (some ⟨pm, 0, none⟩), .pointer (some ⟨pm, 0, none⟩), .pointer (some ⟨pm, 1, none⟩), .slice ra rn rc, .pointer (some ⟨G, 1, none⟩), .slice pa pl pc, .string T, .slice (some ⟨bl, 0, none⟩) 1 1, .slice (some ⟨ga, 0, none⟩) (recs.length + 1) ca, .pointer (some ⟨pm, 0, none⟩), .pointer (some ⟨pm, 1, none⟩), u88, u89, u90, u91, u92, u93, u94, u95, u96, u97, u98, u99, u100, u101, u102, u103, u104, u105, u106, u107, u108, u109, u110, u111, u112, u113, u114, u115, u116, u117, u118, u119, u120, u121, u122, u123, u124, u125, u126, u127, u128, u129, u130, u131, u132, u133, u134, u135, u136, u137, u138, u139, u140, u141, u142, u143, u144], []⟩ v') :
    (Code.region 25 #[{ dst := some 76, op := Op.move (Operand.tmp 8), type := 28, pos := "law.go:106", after := #[], guard := none }, { dst := some 77, op := Op.move (Operand.tmp 8), type := 28, pos := "law.go:106", after := #[], guard := none }, { dst := some 78, op := Op.nilCheck (Operand.tmp 77), type := 0, pos := "law.go:106", after := #[{ on := 1, ground := Ground.data }], guard := none }, { dst := some 79, op := Op.fieldAddr 32 (Operand.tmp 78) 1, type := 0, pos := "law.go:106", after := #[{ on := 2, ground := Ground.data }], guard := none }, { dst := some 80, op := Op.load 30 (Operand.tmp 79), type := 30, pos := "law.go:106", after := #[{ on := 3, ground := Ground.data }], guard := none }, { dst := some 81, op := Op.fieldAddr 36 (Operand.tmp 10) 1, type := 0, pos := "law.go:106", after := #[], guard := none }, { dst := some 82, op := Op.load 33 (Operand.tmp 81), type := 33, pos := "law.go:106", after := #[{ on := 5, ground := Ground.data }], guard := none }, { dst := some 83, op := Op.convert 33 9 (Operand.tmp 82), type := 9, pos := "law.go:106", after := #[{ on := 6, ground := Ground.data }], guard := none }, { dst := some 84, op := Op.buildSlice 30 1 #[(0, Operand.tmp 83)], type := 30, pos := "law.go:106", after := #[{ on := 7, ground := Ground.data }], guard := none }, { dst := some 85, op := Op.call { callee := Callee.builtin Builtin.append, args := #[Operand.tmp 80, Operand.tmp 84], argTypes := #[30, 30] }, type := 30, pos := "law.go:106", after := #[{ on := 4, ground := Ground.data }, { on := 8, ground := Ground.data }], guard := none }, { dst := some 86, op := Op.nilCheck (Operand.tmp 76), type := 0, pos := "law.go:106", after := #[{ on := 0, ground := Ground.data }, { on := 0, ground := Ground.phase }, { on := 1, ground := Ground.phase }, { on := 2, ground := Ground.phase }, { on := 3, ground := Ground.phase }, { on := 4, ground := Ground.phase }, { on := 5, ground := Ground.phase }, { on := 6, ground := Ground.phase }, { on := 7, ground := Ground.phase }, { on := 8, ground := Ground.phase }, { on := 9, ground := Ground.phase }], guard := none }, { dst := some 87, op := Op.fieldAddr 32 (Operand.tmp 86) 1, type := 0, pos := "law.go:106", after := #[{ on := 10, ground := Ground.data }, { on := 0, ground := Ground.phase }, { on := 1, ground := Ground.phase }, { on := 2, ground := Ground.phase }, { on := 3, ground := Ground.phase }, { on := 4, ground := Ground.phase }, { on := 5, ground := Ground.phase }, { on := 6, ground := Ground.phase }, { on := 7, ground := Ground.phase }, { on := 8, ground := Ground.phase }, { on := 9, ground := Ground.phase }], guard := none }, { dst := none, op := Op.store 30 (Operand.tmp 87) (Operand.tmp 85), type := 0, pos := "law.go:106", after := #[{ on := 11, ground := Ground.data }, { on := 9, ground := Ground.data }, { on := 9, ground := Ground.chain }, { on := 0, ground := Ground.phase }, { on := 1, ground := Ground.phase }, { on := 2, ground := Ground.phase }, { on := 3, ground := Ground.phase }, { on := 4, ground := Ground.phase }, { on := 5, ground := Ground.phase }, { on := 6, ground := Ground.phase }, { on := 7, ground := Ground.phase }, { on := 8, ground := Ground.phase }, { on := 9, ground := Ground.phase }], guard := none }] true).wp Tryz.prog K ⟨#[u0, u1, u2, u3, u4, u5, u6, u7, .pointer (some ⟨pm, 0, none⟩), u9, .pointer (some ⟨G, 0, none⟩), u11, u12, u13, u14, u15, u16, u17, u18, u19, u20, u21, u22, u23, u24, u25, u26, u27, u28, u29, u30, u31, u32, u33, u34, u35, u36, u37, u38, u39, u40, u41, u42, u43, u44, u45, u46, u47, u48, u49, u50, u51, u52, u53, u54, u55, u56, u57, u58, u59, u60, u61, u62, u63, u64, u65, u66, u67, u68, u69, u70, u71, u72, u73, u74, u75, u76, u77, u78, u79, u80, u81, u82, u83, u84, u85, u86, u87, u88, u89, u90, u91, u92, u93, u94, u95, u96, u97, u98, u99, u100, u101, u102, u103, u104, u105, u106, u107, u108, u109, u110, u111, u112, u113, u114, u115, u116, u117, u118, u119, u120, u121, u122, u123, u124, u125, u126, u127, u128, u129, u130, u131, u132, u133, u134, u135, u136, u137, u138, u139, u140, u141, u142, u143, u144], []⟩ w6 := by
  obtain ⟨⟨rV, hbx, hown⟩, hpmB⟩ := hM
  obtain ⟨ra, rn, rc, rfl⟩ := row_slice hown
  have HOW := Lib.hid hown
  have HPM := Lib.hid hpmB
  have J6 := Lib.hid hJ
  have G6 := Lib.hid hG
  have HIB := Lib.hid hIB
  have BW6 := Lib.hid hBW
  have HW1 := Lib.hid hWB
  have SZ6 := Lib.hid hSZ
  have HRM := Lib.hid hRM
  have HRL := Lib.hid hRL
  rw [← hRM] at hbx
  have KP : Hid (∀ X, Below w6.heap.size w6 X → Has X pm (mC base (.slice ra rn rc) RM) tMod ∧ Has X G (jactL z N pa pl pc ka kl kc torn cut) tAct) := Lib.hid (fun X hX => ⟨(hX.block pm hbx.lt).trans hbx, (hX.block G G6.out.lt).trans G6.out⟩)
  obtain ⟨T, hT⟩ : ∃ T : ByteArray, T = ⟨P.toArray⟩ := ⟨_, rfl⟩
  have HCV : Hid (∀ X, Below W.heap.size W X → (convert 33 9 (.slice pa pl pc)).run Tryz.prog X = .ok (.string T) X) := Lib.hid (fun X hX => by rw [hT]; exact conv_isB (HIB.out.later hX))
  have HT : Hid (sv P = .string T) := Lib.hid (by rw [hT]; rfl)
  obtain ⟨i0, hi, hz0, hz1, hz2⟩ := infoSt
  have HI0 := Lib.hid hi
  have HZ0 := Lib.hid hz0
  have HZ1 := Lib.hid hz1
  have HZ2 := Lib.hid hz2
  have HP := Lib.hid hp
  have HKK := Lib.hid hk
  clear hbx hown hpmB hT hi hz0 hz1 hz2 hJ hG hIB hBW hWB hSZ hRM hRL hp hk
  refine wp_region_held_drew (S := fun X => Has X G (jactL z N pa pl pc ka kl kc torn cut) tAct ∧ (convert 33 9 (.slice pa pl pc)).run Tryz.prog X = .ok (.string T) X) (by kernel_rfl) ⟨(KP.out _ (Below.refl _ _).drew).2, HCV.out _ BW6.out.drew⟩ (fun hHeld => ?_)
  refine wpAnyH_take (i := 0) (oi := { dst := some 76, op := Op.move (Operand.tmp 8), type := 28, pos := "law.go:106", after := #[], guard := none }) (v := .pointer (some ⟨pm, 0, none⟩)) rfl (by kernel_rfl) (by kernel_rfl) (by kernel_rfl) (fun _ _ _ h => HP.out _ _ _ _ h)
    (Or.inl ⟨by rfl, by intro w hSw;  clear hSw; go_simp⟩) hHeld ?_
  try simp only [Act.put, List.setIfInBounds_toArray, List.set_cons_zero, List.set_cons_succ]
  refine wpAnyH_take (i := 1) (oi := { dst := some 77, op := Op.move (Operand.tmp 8), type := 28, pos := "law.go:106", after := #[], guard := none }) (v := .pointer (some ⟨pm, 0, none⟩)) rfl (by kernel_rfl) (by kernel_rfl) (by kernel_rfl) (fun _ _ _ h => HP.out _ _ _ _ h)
    (Or.inl ⟨by rfl, by intro w hSw;  clear hSw; go_simp⟩) hHeld ?_
  try simp only [Act.put, List.setIfInBounds_toArray, List.set_cons_zero, List.set_cons_succ]
  refine wpAnyH_take (i := 2) (oi := { dst := some 78, op := Op.nilCheck (Operand.tmp 77), type := 0, pos := "law.go:106", after := #[{ on := 1, ground := Ground.data }], guard := none }) (v := .pointer (some ⟨pm, 0, none⟩)) rfl (by kernel_rfl) (by kernel_rfl) (by kernel_rfl) (fun _ _ _ h => HP.out _ _ _ _ h)
    (Or.inl ⟨by rfl, by intro w hSw;  clear hSw; go_simp⟩) hHeld ?_
  try simp only [Act.put, List.setIfInBounds_toArray, List.set_cons_zero, List.set_cons_succ]
  refine wpAnyH_take (i := 3) (oi := { dst := some 79, op := Op.fieldAddr 32 (Operand.tmp 78) 1, type := 0, pos := "law.go:106", after := #[{ on := 2, ground := Ground.data }], guard := none }) (v := .pointer (some ⟨pm, 1, none⟩)) rfl (by kernel_rfl) (by kernel_rfl) (by kernel_rfl) (fun _ _ _ h => HP.out _ _ _ _ h)
    (Or.inl ⟨by rfl, by intro w hSw;  clear hSw; go_simp⟩) hHeld ?_
  try simp only [Act.put, List.setIfInBounds_toArray, List.set_cons_zero, List.set_cons_succ]
  refine wpAnyH_take (i := 5) (oi := { dst := some 81, op := Op.fieldAddr 36 (Operand.tmp 10) 1, type := 0, pos := "law.go:106", after := #[], guard := none }) (v := .pointer (some ⟨G, 1, none⟩)) rfl (by kernel_rfl) (by kernel_rfl) (by kernel_rfl) (fun _ _ _ h => HP.out _ _ _ _ h)
    (Or.inl ⟨by rfl, by intro w hSw;  clear hSw; go_simp⟩) hHeld ?_
  try simp only [Act.put, List.setIfInBounds_toArray, List.set_cons_zero, List.set_cons_succ]
  refine wpAnyH_take (i := 6) (oi := { dst := some 82, op := Op.load 33 (Operand.tmp 81), type := 33, pos := "law.go:106", after := #[{ on := 5, ground := Ground.data }], guard := none }) (v := .slice pa pl pc) rfl (by kernel_rfl) (by kernel_rfl) (by kernel_rfl) (fun _ _ _ h => HP.out _ _ _ _ h)
    (Or.inl ⟨by rfl, by intro w hSw; have g1 := hSw.1.cellAt (i := 1) rfl; clear hSw; go_simp⟩) hHeld ?_
  try simp only [Act.put, List.setIfInBounds_toArray, List.set_cons_zero, List.set_cons_succ]
  refine wpAnyH_take (i := 7) (oi := { dst := some 83, op := Op.convert 33 9 (Operand.tmp 82), type := 9, pos := "law.go:106", after := #[{ on := 6, ground := Ground.data }], guard := none }) (v := .string T) rfl (by kernel_rfl) (by kernel_rfl) (by kernel_rfl) (fun _ _ _ h => HP.out _ _ _ _ h)
    (Or.inl ⟨by rfl, by intro w hSw; have g2 := hSw.2; clear hSw; go_simp⟩) hHeld ?_
  try simp only [Act.put, List.setIfInBounds_toArray, List.set_cons_zero, List.set_cons_succ]
  refine wpAnyH_ready (rs := [4, 8]) (by kernel_rfl) (by simp) ?_
  refine AllReadyH.cons (o := { dst := some 80, op := Op.load 30 (Operand.tmp 79), type := 30, pos := "law.go:106", after := #[{ on := 3, ground := Ground.data }], guard := none }) rfl (fun K hK => ?_) (AllReadyH.cons (o := { dst := some 84, op := Op.buildSlice 30 1 #[(0, Operand.tmp 83)], type := 30, pos := "law.go:106", after := #[{ on := 7, ground := Ground.data }], guard := none }) rfl (fun K hK => ?_) AllReadyH.nil)
  · have q4 := (KP.out w6.drew ((Below.refl w6.heap.size w6).drew)).1.cellAt (i := 1) rfl
    go_simp
    clear q4
    refine hK.out _ _ hHeld (fun hHw1 => ?_)
    clear hK hHeld
    try simp only [Act.put, List.setIfInBounds_toArray, List.set_cons_zero, List.set_cons_succ]
    refine wpAnyH_ready (rs := [8]) (by kernel_rfl) (by simp) ?_
    refine AllReadyH.cons (o := { dst := some 84, op := Op.buildSlice 30 1 #[(0, Operand.tmp 83)], type := 30, pos := "law.go:106", after := #[{ on := 7, ground := Ground.data }], guard := none }) rfl (fun K hK => ?_) AllReadyH.nil
    go_simp
    obtain ⟨wd, hwd⟩ : ∃ wd, wd = (w6.alloc (.cells #[.string T] 9)).drew := ⟨_, rfl⟩
    have Bd : Hid (Below w6.heap.size w6 wd) := Lib.hid (by rw [hwd]; exact ((Below.refl _ _).alloc (Nat.le_refl _) _).drew)
    have Hd1 : Hid (Has wd w6.heap.size [.string T] 9) := Lib.hid (by rw [hwd]; exact (Has.new w6 _ _).drew)
    rw [← hwd]
    clear hwd
    refine hK.out _ _ ⟨(KP.out wd Bd.out).2, HCV.out _ (BW6.out.trans (Bd.out.mono BW6.out.size))⟩ (fun hHw2 => ?_)
    clear hK hHw1
    try simp only [Act.put, List.setIfInBounds_toArray, List.set_cons_zero, List.set_cons_succ]
    refine wpAnyH_ready (rs := [9]) (by kernel_rfl) (by simp) ?_
    refine AllReadyH.cons (o := { dst := some 85, op := Op.call { callee := Callee.builtin Builtin.append, args := #[Operand.tmp 80, Operand.tmp 84], argTypes := #[30, 30] }, type := 30, pos := "law.go:106", after := #[{ on := 4, ground := Ground.data }, { on := 8, ground := Ground.data }], guard := none }) rfl (fun K hK => ?_) AllReadyH.nil
    rw [if_pos (by rfl)]
    have ORd : Hid (wd.ownsRow B 9 1 (.slice ra rn rc) recs.length (recs.map sv)) := Lib.hid (own_later HOW.out Bd.out)
    refine wp_append_lies _ (.tmp 80) (.tmp 84) 30 rfl B 9 i0 (.string ByteArray.empty) 1 16 Tryz.underlying30 HI0.out HZ0.out HZ1.out HZ2.out rfl (by omega) _ recs.length (recs.map sv) rfl ORd.out ⟨w6.heap.size, 0, none⟩ 1 1 [.string T] rfl rfl (fun j u hj => by rw [Addr.add_mid, Nat.zero_add]; exact Hd1.out.cellAt hj) (fun u hu => by simp at hu; subst hu; rfl) (by omega) (by have := HRL.out; unfold maxLen; omega) (by have := HRL.out; omega) (Nat.le_trans SZ6.out Bd.out.size) _ rfl (fun ga capa we heo heg hes hei => ?_)
    have Oe := Lib.hid heo
    have KK := Lib.hid (KP.out wd Bd.out)
    have Me : Hid (Has we pm (mC base (.slice ra rn rc) RM) tMod) := Lib.hid (has_grown2 KK.out.1 ORd.out (by decide) heg)
    have Ge : Hid (Has we G (jactL z N pa pl pc ka kl kc torn cut) tAct) := Lib.hid (has_grown2 KK.out.2 ORd.out (by decide) heg)
    have Ke : Hid (Kp [tMod, 9] B w6 we) := Lib.hid ((Kp.of_below Bd.out).trans (Kp.grown heg ORd.out (Nat.le_refl _) (by decide)))
    clear heo heg hes hei
    refine hK.out _ _ ⟨Ge.out, HCV.out _ (BW6.out.trans ((Ke.out.below SZ6.out).mono HW1.out))⟩ (fun hHw3 => ?_)
    clear hK hHw2
    try simp only [Act.put, List.setIfInBounds_toArray, List.set_cons_zero, List.set_cons_succ]
    refine wpAnyH_take (i := 10) (oi := { dst := some 86, op := Op.nilCheck (Operand.tmp 76), type := 0, pos := "law.go:106", after := #[{ on := 0, ground := Ground.data }, { on := 0, ground := Ground.phase }, { on := 1, ground := Ground.phase }, { on := 2, ground := Ground.phase }, { on := 3, ground := Ground.phase }, { on := 4, ground := Ground.phase }, { on := 5, ground := Ground.phase }, { on := 6, ground := Ground.phase }, { on := 7, ground := Ground.phase }, { on := 8, ground := Ground.phase }, { on := 9, ground := Ground.phase }], guard := none }) (v := .pointer (some ⟨pm, 0, none⟩)) rfl (by kernel_rfl) (by kernel_rfl) (by kernel_rfl) (fun _ _ _ h => HP.out _ _ _ _ h)
      (Or.inl ⟨by rfl, by intro w hSw;  clear hSw; go_simp⟩) hHw3 ?_
    try simp only [Act.put, List.setIfInBounds_toArray, List.set_cons_zero, List.set_cons_succ]
    refine wpAnyH_take (i := 11) (oi := { dst := some 87, op := Op.fieldAddr 32 (Operand.tmp 86) 1, type := 0, pos := "law.go:106", after := #[{ on := 10, ground := Ground.data }, { on := 0, ground := Ground.phase }, { on := 1, ground := Ground.phase }, { on := 2, ground := Ground.phase }, { on := 3, ground := Ground.phase }, { on := 4, ground := Ground.phase }, { on := 5, ground := Ground.phase }, { on := 6, ground := Ground.phase }, { on := 7, ground := Ground.phase }, { on := 8, ground := Ground.phase }, { on := 9, ground := Ground.phase }], guard := none }) (v := .pointer (some ⟨pm, 1, none⟩)) rfl (by kernel_rfl) (by kernel_rfl) (by kernel_rfl) (fun _ _ _ h => HP.out _ _ _ _ h)
      (Or.inl ⟨by rfl, by intro w hSw;  clear hSw; go_simp⟩) hHw3 ?_
    try simp only [Act.put, List.setIfInBounds_toArray, List.set_cons_zero, List.set_cons_succ]
    refine wpAnyH_ready (rs := [12]) (by kernel_rfl) (by simp) ?_
    refine AllReadyH.cons (o := { dst := none, op := Op.store 30 (Operand.tmp 87) (Operand.tmp 85), type := 0, pos := "law.go:106", after := #[{ on := 11, ground := Ground.data }, { on := 9, ground := Ground.data }, { on := 9, ground := Ground.chain }, { on := 0, ground := Ground.phase }, { on := 1, ground := Ground.phase }, { on := 2, ground := Ground.phase }, { on := 3, ground := Ground.phase }, { on := 4, ground := Ground.phase }, { on := 5, ground := Ground.phase }, { on := 6, ground := Ground.phase }, { on := 7, ground := Ground.phase }, { on := 8, ground := Ground.phase }, { on := 9, ground := Ground.phase }], guard := none }) rfl (fun K hK => ?_) AllReadyH.nil
    have q4 := Me.out.cellAt (i := 1) rfl
    have f4 := Me.out.frozen 1
    go_simp
    clear q4 f4
    obtain ⟨v, hv⟩ : ∃ v, v = we.setCell ⟨pm, 1, none⟩ (.slice (some ⟨ga, 0, none⟩) (recs.length + 1) capa) := ⟨_, rfl⟩
    have Mg : Hid (Has v pm (mC base (.slice (some ⟨ga, 0, none⟩) (recs.length + 1) capa) RM) tMod) := Lib.hid (by rw [hv]; exact Me.out.set 1 _)
    have Gg : Hid (Has v G (jactL z N pa pl pc ka kl kc torn cut) tAct) := Lib.hid (by rw [hv]; exact Ge.out.kp (Kp.of_but (ts := [tMod]) (B := B) ((But.refl _ _ _).setB 1 _) HPM.out Me.out (by decide)) (by decide))
    have Og : Hid (v.ownsRow B 9 1 (.slice (some ⟨ga, 0, none⟩) (recs.length + 1) capa) (recs.length + 1) (recs.map sv ++ [.string T])) := Lib.hid (by rw [hv]; exact owns_set Oe.out Me.out (by decide) 1 _)
    have Kg : Hid (Kp [tMod, 9] B w6 v) := Lib.hid (by rw [hv]; exact Ke.out.trans (Kp.of_but ((But.refl _ _ _).setB 1 _) HPM.out Me.out (by decide)))
    first | rw [← hv] | skip
    clear hv
    refine hK.out _ _ ⟨Gg.out, HCV.out _ (BW6.out.trans ((Kg.out.below SZ6.out).mono HW1.out))⟩ (fun hHw4 => ?_)
    clear hK hHw3
    try simp only [Act.put, List.setIfInBounds_toArray, List.set_cons_zero, List.set_cons_succ]
    refine wpAnyH_done (by kernel_rfl) ?_ _
    clear hHw4
    have J7 := Lib.hid (J6.out.kp Kg.out (by decide) (by decide) (by decide) (by decide) (by decide) (by decide))
    exact HKK.out v ra rn rc ga capa _ T ⟨J7.out, ⟨⟨_, by rw [← HRM.out]; exact Mg.out, by rw [List.length_append, List.map_append]; have h := Og.out; rw [← HT.out] at h; exact h⟩, HPM.out⟩⟩ (BW6.out.trans ((Kg.out.below SZ6.out).mono HW1.out)) (Nat.le_trans SZ6.out Kg.out.size)
  · go_simp
    obtain ⟨wd, hwd⟩ : ∃ wd, wd = (w6.alloc (.cells #[.string T] 9)).drew := ⟨_, rfl⟩
    have Bd : Hid (Below w6.heap.size w6 wd) := Lib.hid (by rw [hwd]; exact ((Below.refl _ _).alloc (Nat.le_refl _) _).drew)
    have Hd1 : Hid (Has wd w6.heap.size [.string T] 9) := Lib.hid (by rw [hwd]; exact (Has.new w6 _ _).drew)
    rw [← hwd]
    clear hwd
    refine hK.out _ _ ⟨(KP.out wd Bd.out).2, HCV.out _ (BW6.out.trans (Bd.out.mono BW6.out.size))⟩ (fun hHw1 => ?_)
    clear hK hHeld
    try simp only [Act.put, List.setIfInBounds_toArray, List.set_cons_zero, List.set_cons_succ]
    refine wpAnyH_ready (rs := [4]) (by kernel_rfl) (by simp) ?_
    refine AllReadyH.cons (o := { dst := some 80, op := Op.load 30 (Operand.tmp 79), type := 30, pos := "law.go:106", after := #[{ on := 3, ground := Ground.data }], guard := none }) rfl (fun K hK => ?_) AllReadyH.nil
    have q4 := (KP.out wd (Bd.out)).1.cellAt (i := 1) rfl
    go_simp
    clear q4
    refine hK.out _ _ hHw1 (fun hHw2 => ?_)
    clear hK hHw1
    try simp only [Act.put, List.setIfInBounds_toArray, List.set_cons_zero, List.set_cons_succ]
    refine wpAnyH_ready (rs := [9]) (by kernel_rfl) (by simp) ?_
    refine AllReadyH.cons (o := { dst := some 85, op := Op.call { callee := Callee.builtin Builtin.append, args := #[Operand.tmp 80, Operand.tmp 84], argTypes := #[30, 30] }, type := 30, pos := "law.go:106", after := #[{ on := 4, ground := Ground.data }, { on := 8, ground := Ground.data }], guard := none }) rfl (fun K hK => ?_) AllReadyH.nil
    rw [if_pos (by rfl)]
    have ORd : Hid (wd.ownsRow B 9 1 (.slice ra rn rc) recs.length (recs.map sv)) := Lib.hid (own_later HOW.out Bd.out)
    refine wp_append_lies _ (.tmp 80) (.tmp 84) 30 rfl B 9 i0 (.string ByteArray.empty) 1 16 Tryz.underlying30 HI0.out HZ0.out HZ1.out HZ2.out rfl (by omega) _ recs.length (recs.map sv) rfl ORd.out ⟨w6.heap.size, 0, none⟩ 1 1 [.string T] rfl rfl (fun j u hj => by rw [Addr.add_mid, Nat.zero_add]; exact Hd1.out.cellAt hj) (fun u hu => by simp at hu; subst hu; rfl) (by omega) (by have := HRL.out; unfold maxLen; omega) (by have := HRL.out; omega) (Nat.le_trans SZ6.out Bd.out.size) _ rfl (fun ga capa we heo heg hes hei => ?_)
    have Oe := Lib.hid heo
    have KK := Lib.hid (KP.out wd Bd.out)
    have Me : Hid (Has we pm (mC base (.slice ra rn rc) RM) tMod) := Lib.hid (has_grown2 KK.out.1 ORd.out (by decide) heg)
    have Ge : Hid (Has we G (jactL z N pa pl pc ka kl kc torn cut) tAct) := Lib.hid (has_grown2 KK.out.2 ORd.out (by decide) heg)
    have Ke : Hid (Kp [tMod, 9] B w6 we) := Lib.hid ((Kp.of_below Bd.out).trans (Kp.grown heg ORd.out (Nat.le_refl _) (by decide)))
    clear heo heg hes hei
    refine hK.out _ _ ⟨Ge.out, HCV.out _ (BW6.out.trans ((Ke.out.below SZ6.out).mono HW1.out))⟩ (fun hHw3 => ?_)
    clear hK hHw2
    try simp only [Act.put, List.setIfInBounds_toArray, List.set_cons_zero, List.set_cons_succ]
    refine wpAnyH_take (i := 10) (oi := { dst := some 86, op := Op.nilCheck (Operand.tmp 76), type := 0, pos := "law.go:106", after := #[{ on := 0, ground := Ground.data }, { on := 0, ground := Ground.phase }, { on := 1, ground := Ground.phase }, { on := 2, ground := Ground.phase }, { on := 3, ground := Ground.phase }, { on := 4, ground := Ground.phase }, { on := 5, ground := Ground.phase }, { on := 6, ground := Ground.phase }, { on := 7, ground := Ground.phase }, { on := 8, ground := Ground.phase }, { on := 9, ground := Ground.phase }], guard := none }) (v := .pointer (some ⟨pm, 0, none⟩)) rfl (by kernel_rfl) (by kernel_rfl) (by kernel_rfl) (fun _ _ _ h => HP.out _ _ _ _ h)
      (Or.inl ⟨by rfl, by intro w hSw;  clear hSw; go_simp⟩) hHw3 ?_
    try simp only [Act.put, List.setIfInBounds_toArray, List.set_cons_zero, List.set_cons_succ]
    refine wpAnyH_take (i := 11) (oi := { dst := some 87, op := Op.fieldAddr 32 (Operand.tmp 86) 1, type := 0, pos := "law.go:106", after := #[{ on := 10, ground := Ground.data }, { on := 0, ground := Ground.phase }, { on := 1, ground := Ground.phase }, { on := 2, ground := Ground.phase }, { on := 3, ground := Ground.phase }, { on := 4, ground := Ground.phase }, { on := 5, ground := Ground.phase }, { on := 6, ground := Ground.phase }, { on := 7, ground := Ground.phase }, { on := 8, ground := Ground.phase }, { on := 9, ground := Ground.phase }], guard := none }) (v := .pointer (some ⟨pm, 1, none⟩)) rfl (by kernel_rfl) (by kernel_rfl) (by kernel_rfl) (fun _ _ _ h => HP.out _ _ _ _ h)
      (Or.inl ⟨by rfl, by intro w hSw;  clear hSw; go_simp⟩) hHw3 ?_
    try simp only [Act.put, List.setIfInBounds_toArray, List.set_cons_zero, List.set_cons_succ]
    refine wpAnyH_ready (rs := [12]) (by kernel_rfl) (by simp) ?_
    refine AllReadyH.cons (o := { dst := none, op := Op.store 30 (Operand.tmp 87) (Operand.tmp 85), type := 0, pos := "law.go:106", after := #[{ on := 11, ground := Ground.data }, { on := 9, ground := Ground.data }, { on := 9, ground := Ground.chain }, { on := 0, ground := Ground.phase }, { on := 1, ground := Ground.phase }, { on := 2, ground := Ground.phase }, { on := 3, ground := Ground.phase }, { on := 4, ground := Ground.phase }, { on := 5, ground := Ground.phase }, { on := 6, ground := Ground.phase }, { on := 7, ground := Ground.phase }, { on := 8, ground := Ground.phase }, { on := 9, ground := Ground.phase }], guard := none }) rfl (fun K hK => ?_) AllReadyH.nil
    have q4 := Me.out.cellAt (i := 1) rfl
    have f4 := Me.out.frozen 1
    go_simp
    clear q4 f4
    obtain ⟨v, hv⟩ : ∃ v, v = we.setCell ⟨pm, 1, none⟩ (.slice (some ⟨ga, 0, none⟩) (recs.length + 1) capa) := ⟨_, rfl⟩
    have Mg : Hid (Has v pm (mC base (.slice (some ⟨ga, 0, none⟩) (recs.length + 1) capa) RM) tMod) := Lib.hid (by rw [hv]; exact Me.out.set 1 _)
    have Gg : Hid (Has v G (jactL z N pa pl pc ka kl kc torn cut) tAct) := Lib.hid (by rw [hv]; exact Ge.out.kp (Kp.of_but (ts := [tMod]) (B := B) ((But.refl _ _ _).setB 1 _) HPM.out Me.out (by decide)) (by decide))
    have Og : Hid (v.ownsRow B 9 1 (.slice (some ⟨ga, 0, none⟩) (recs.length + 1) capa) (recs.length + 1) (recs.map sv ++ [.string T])) := Lib.hid (by rw [hv]; exact owns_set Oe.out Me.out (by decide) 1 _)
    have Kg : Hid (Kp [tMod, 9] B w6 v) := Lib.hid (by rw [hv]; exact Ke.out.trans (Kp.of_but ((But.refl _ _ _).setB 1 _) HPM.out Me.out (by decide)))
    first | rw [← hv] | skip
    clear hv
    refine hK.out _ _ ⟨Gg.out, HCV.out _ (BW6.out.trans ((Kg.out.below SZ6.out).mono HW1.out))⟩ (fun hHw4 => ?_)
    clear hK hHw3
    try simp only [Act.put, List.setIfInBounds_toArray, List.set_cons_zero, List.set_cons_succ]
    refine wpAnyH_done (by kernel_rfl) ?_ _
    clear hHw4
    have J7 := Lib.hid (J6.out.kp Kg.out (by decide) (by decide) (by decide) (by decide) (by decide) (by decide))
    exact HKK.out v ra rn rc ga capa _ T ⟨J7.out, ⟨⟨_, by rw [← HRM.out]; exact Mg.out, by rw [List.length_append, List.map_append]; have h := Og.out; rw [← HT.out] at h; exact h⟩, HPM.out⟩⟩ (BW6.out.trans ((Kg.out.below SZ6.out).mono HW1.out)) (Nat.le_trans SZ6.out Kg.out.size)

set_option maxHeartbeats 8000000 in
theorem walk_JournalPlays (W : World) (hl : LaidW W) (x : UInt8) (sa : Option Addr) (sl sc : Nat) (hacts : IsActs W sa sl sc) :
    Calls Tryz.prog 3 #[.int .u8 (x.toNat : Int), .slice sa sl sc] W fun e w' => e = .returned (.bool true) ∧ Below W.heap.size W w' := by
  have HACT := Lib.hid hacts
  have hsl : sl ≤ 9223372036854775807 := by have := hacts.room; unfold maxLen at this; omega
  clear hacts
  have HAW := Lib.hid (awake_any W hl)
  have HLW := Lib.hid hl
  obtain ⟨n, hn, n6, n35⟩ : ∃ n, n = 6 + x.toNat % 30 ∧ 6 ≤ n ∧ n ≤ 35 := ⟨_, rfl, by omega, by omega⟩
  have HFR : Hid (∀ v, Below W.heap.size W v → Calls Tryz.prog 9 #[.int .i64 (n : Int)] v (FreshP n v)) := Lib.hid (fun v hv => fresh_any n v (hl.below hv hl.two) n6 (by omega))
  obtain ⟨RM, hRM, hh2, r1, r2⟩ : ∃ RM, RM = 256 * half n ∧ 2 ≤ half n ∧ 512 ≤ RM ∧ RM ≤ 4096 := ⟨_, rfl, by unfold half; omega, by unfold half; omega, by unfold half; omega⟩
  obtain ⟨HF, hHF⟩ : ∃ HF, HF = half n := ⟨_, rfl⟩
  have HHA := Lib.hid (fun v => half_any n v (by omega))
  rw [← hHF] at HHA hRM hh2
  have e5 : wrap64 ((HF : Int) * 256) = (RM : Int) := by unfold wrap64; omega
  have c1 := wrap_u8 x
  have e1 : wrap64 (6 + ((x.toNat % 30 : Nat) : Int)) = (n : Int) := by rw [hn]; exact wrap_six x
  have e0 : ((x.toNat : Nat) : Int).tmod 30 = ((x.toNat % 30 : Nat) : Int) := tmod_nat x.toNat 30
  obtain ⟨r, hr⟩ : ∃ r, r = x.toNat % 30 := ⟨_, rfl⟩
  rw [← hr] at e0 e1
  have HRM : Hid (RM = 256 * half n) := Lib.hid (by rw [hRM, hHF])
  have K1 := Lib.hid n6
  have K2 := Lib.hid n35
  have K4 := Lib.hid r1
  have K5 := Lib.hid r2
  have K6 : Hid (2 ≤ half n) := Lib.hid (by rw [← hHF]; exact hh2)
  clear hl hn n6 n35 hRM hh2 r1 r2 hr hHF
  go_enter Tryz.func3, Tryz.ntmps3
  go_upto_region 7 with (first
    | (go_at_call 8; refine HAW.out.mono ?_; rintro e w1 ⟨rfl, hb1⟩; have B1 := Lib.hid hb1; have HF := Lib.hid (HFR.out w1 hb1); clear hb1 HAW HFR)
    | (go_at_call 9; refine HF.out.mono ?_; rintro e w2 ⟨pd, pj, L, rfl, hj, hb2⟩; have B2 := Lib.hid (B1.out.trans (hb2.mono B1.out.size)); have J2 := Lib.hid hj; have S12 := Lib.hid hb2.size; clear hj hb2 HF))
  go_upto_region 8 with (go_at_call 10; refine (HHA.out _).mono ?_; rintro e w2b ⟨rfl, rfl⟩)
  obtain ⟨pm, hpm⟩ : ∃ pm, pm = w2.heap.size := ⟨_, rfl⟩
  obtain ⟨w3, hw3⟩ : ∃ w3, w3 = w2.alloc (.cells (mC [] (.slice none 0 0) RM).toArray tMod) := ⟨_, rfl⟩
  have e3 : w2.alloc (.cells #[.string ⟨#[]⟩, .slice none 0 0, .int .i64 (RM : Int)] tMod) = w3 := by rw [hw3]; rfl
  rw [e3, ← hpm]
  have B23 : Hid (Below w2.heap.size w2 w3) := Lib.hid (by rw [hw3]; exact (Below.refl _ _).alloc (Nat.le_refl _) _)
  have S0 : Hid (St w3 w1.heap.size pd pj pm n 0 [] []) := Lib.hid ⟨⟨_, _, _, _, J2.out.later B23.out, Nat.le_refl _, Nat.le_trans S12.out B23.out.size, by omega⟩, ⟨⟨.slice none 0 0, by rw [hw3, hpm, ← HRM.out]; exact Has.new _ _ _, World.ownsRow_nil _ _ _ _⟩, by rw [hpm]; exact S12.out⟩⟩
  have B3 := Lib.hid (B2.out.trans (B23.out.mono B2.out.size))
  have S3 := Lib.hid (Nat.le_trans S12.out B23.out.size)
  have HW1 : Hid (W.heap.size ≤ w1.heap.size) := Lib.hid B1.out.size
  clear hw3 e3 hpm e0 e1 c1 e5 J2 B2 B23 HHA S12
  go_wp2_with fail
  go_loopw [7, 9] (fun pv ii wr => ∃ (i pj : Nat) (base : List UInt8) (recs : List (List UInt8)), i ≤ sl ∧ i ≤ 60 ∧ pv = .pointer (some ⟨pj, 0, none⟩) ∧ ii = .int .i64 (i : Int) ∧ Hid (St wr w1.heap.size pd pj pm n i base recs) ∧ Hid (Below W.heap.size W wr) ∧ Hid (w1.heap.size ≤ wr.heap.size)) (fun _ ii _ => 60 - (intOf ii).toNat)
  case atStart => exact ⟨0, pj, [], [], Nat.zero_le _, Nat.zero_le _, rfl, rfl, S0, B3, S3⟩
  case round =>
    clear S0 B3 S3
    obtain ⟨i, pj, base, recs, hi1, hi2, rfl, rfl, hst, hB, hS⟩ := hrel
    by_cases hlt : i < sl ∧ i < 60
    · obtain ⟨h1, h2⟩ := hlt
      have h1i : (i : Int) < (sl : Int) := by omega
      have h2i : (i : Int) < 60 := by omega
      obtain ⟨b, off, rfl, hbW, cs, hok, hat⟩ : ∃ b off, sa = some ⟨b, off, none⟩ ∧ b < W.heap.size ∧ ∃ cs, ActOk W cs ∧ W.rangeAt b (off + i * 6) cs := by
        rcases HACT.out.at_ with h0 | ⟨b, off, e, hb, h⟩
        · omega
        · obtain ⟨cs, c1, c2⟩ := h i h1
          exact ⟨b, off, e, hb, cs, c1, c2⟩
      obtain ⟨z, N, pa, pl, pc, P, ka, kl, kc, torn, cut, rfl, z0, z1, hIB⟩ := hok
      have RA : Hid (wr.rangeAt b (off + i * 6) (jactL z N pa pl pc ka kl kc torn cut)) := Lib.hid (fun j u hj => (World.cell?_of_block (w := W) (hB.out.block b hbW)).trans (hat j u hj))
      have IA := Lib.hid (infoAct z N pa pl pc ka kl kc torn cut)
      have IA2 := Lib.hid (infoActA z N pa pl pc ka kl kc torn cut)
      have HIB := Lib.hid hIB
      obtain ⟨r, hr6, hm1⟩ : ∃ r : Nat, r < 6 ∧ z.tmod 6 = (r : Int) := ⟨z.toNat % 6, by omega, by rw [Int.tmod_eq_emod_of_nonneg z0]; omega⟩
      have HZ0 := Lib.hid z0
      have HZ1 := Lib.hid z1
      have HR6 := Lib.hid hr6
      clear hat hIB z0 z1 hr6 hi1 hi2
      have HI := Lib.hid h1
      have HI2 := Lib.hid h2
      clear h1 h2
      go_upto_region 12 with (first | (refine wpList_load_mid rfl tAct _ rfl b (off + i * 6) rfl (jactL z N pa pl pc ka kl kc torn cut) _ RA.out Tryz.underlying36 rfl IA.out ?_) | (refine wpList_store_row rfl tAct (.tmp 10) (.tmp 46) rfl wr.heap.size (jactL z N pa pl pc ka kl kc torn cut).toArray rfl rfl tAct jactZ.toArray (Has.new wr _ _) IA2.out rfl (jact_one _ _ _ _ _ _ _ _ _ _) ?_))
      try simp only [Act.put]
      obtain ⟨G, hG⟩ : ∃ G, G = wr.heap.size := ⟨_, rfl⟩
      obtain ⟨w4, hw4⟩ : ∃ w4, w4 = (wr.alloc (.cells jactZ.toArray tAct)).setRow wr.heap.size (jactL z N pa pl pc ka kl kc torn cut).toArray := ⟨_, rfl⟩
      have e4 : (wr.alloc (.cells #[.int .u8 0, .slice none 0 0, .int .u8 0, .slice none 0 0, .int .i64 0, .int .i64 0] tAct)).setRow wr.heap.size (jactL z N pa pl pc ka kl kc torn cut).toArray = w4 := by rw [hw4]; rfl
      have G4 : Hid (Has w4 G (jactL z N pa pl pc ka kl kc torn cut) tAct) := Lib.hid (by rw [hw4, hG]; exact (Has.new wr jactZ tAct).row _)
      have B4 : Hid (Below wr.heap.size wr w4) := Lib.hid (by rw [hw4]; exact below_setRow ((Below.refl _ _).alloc (Nat.le_refl _) _) (Nat.le_refl _) _)
      rw [e4, ← hG]
      have J4 := Lib.hid (hst.out.jn.later B4.out)
      have M4 := Lib.hid (hst.out.mod.later B4.out)
      have BW4 := Lib.hid (hB.out.trans (B4.out.mono hB.out.size))
      have SZ4 := Lib.hid (Nat.le_trans hS.out B4.out.size)
      have IP4 := Lib.hid (HIB.out.later BW4.out)
      have HGB := Lib.hid (Nat.lt_of_lt_of_le HLW.out.two HW1.out)
      have HOLD : Hid (∀ b off, pa = some ⟨b, off, none⟩ → 0 < pl → b < w1.heap.size) := Lib.hid (fun b off e h0 => by
        rcases HIB.out.at_ with h1 | ⟨b', off', e', hlt, _⟩
        · omega
        · rw [e] at e'; cases e'; exact Nat.lt_of_lt_of_le hlt HW1.out)
      have KN : Hid (6 ≤ n ∧ n ≤ 35) := Lib.hid ⟨K1.out, K2.out⟩
      have q0 := G4.out.cellAt (i := 0) rfl
      have hpl : pl ≤ 9223372036854775807 := by have := HIB.out.room; unfold maxLen at this; omega
      clear e4 hw4 hG hst hB hS RA IA IA2 h1i h2i
      rcases (show r = 0 ∨ r = 1 ∨ r = 2 ∨ r = 3 ∨ r = 4 ∨ r = 5 by have := HR6.out; omega) with rfl | rfl | rfl | rfl | rfl | rfl
      · as_aux_lemma =>
          have hm : z.tmod 6 = 0 := hm1
          clear hm1
          go_upto_region 21 with fail
          have q1 := G4.out.cellAt (i := 1) rfl
          by_cases hf : usedL base recs + 32 + pl ≤ 256 * half n
          · as_aux_lemma =>
              have RA := Lib.hid (J4.out.app (HLW.out.below BW4.out HLW.out.two) HGB.out KN.out HI2.out pa pl pc P IP4.out HOLD.out SZ4.out hf)
              have MK4 := Lib.hid (fun w5 (hk5 : Kp jT w1.heap.size w4 w5) => fits_any (M4.out.kp hk5 (by decide) (by decide)) J4.out.few (by rw [← HRM.out]; have := K5.out; omega) pl)
              rw [decide_eq_true hf] at MK4
              clear hf q0 hm
              go_upto_region 25 with (first
                | (go_at_call 11; refine RA.out.mono ?_; rintro e w5 ⟨rfl, hj5, hk5⟩;
                   have J5 := Lib.hid hj5; have M5 := Lib.hid (M4.out.kp hk5 (by decide) (by decide)); have G5 := Lib.hid (G4.out.kp hk5 (by decide)); have BW5 := Lib.hid (BW4.out.trans ((hk5.below SZ4.out).mono HW1.out)); have SZ5 := Lib.hid (Nat.le_trans SZ4.out hk5.size); have MF := Lib.hid (MK4.out w5 hk5); have q1' := G5.out.cellAt (i := 1) rfl;
                   clear hj5 hk5 RA MK4 q1)
                | (go_at_call 12; refine MF.out.mono ?_; rintro e w6 ⟨rfl, hb6⟩;
                   have J6 := Lib.hid (J5.out.later hb6); have M6 := Lib.hid (M5.out.later hb6); have G6 := Lib.hid (G5.out.below hb6 G5.out.lt); have BW6 := Lib.hid (BW5.out.trans (hb6.mono BW5.out.size)); have SZ6 := Lib.hid (Nat.le_trans SZ5.out hb6.size);
                   clear hb6 MF q1'))
              have HRL : Hid (recs.length ≤ 1000000) := Lib.hid (by have h1 := J4.out.few; have h2 := On_few base recs; have h3 := K5.out; rw [← HRM.out] at h1; omega)
              refine add25 J6.out M6.out G6.out HIB.out BW6.out HW1.out SZ6.out HRM.out HRL.out (fun _ _ _ _ h => h) (fun v ra9 rn9 rc9 ga9 ca9 bl9 T9 hst9 hb9 hs9 => ?_)
              obtain ⟨bs, rs, ST⟩ : ∃ bs rs, Hid (St v w1.heap.size pd pj pm n (i + 1) bs rs) := ⟨base, recs ++ [P], Lib.hid hst9⟩
              have BV := Lib.hid hb9
              have SV := Lib.hid hs9
              clear hst9 hb9 hs9 J5 M5 G5 BW5 SZ5 J6 M6 G6 BW6 SZ6
              go_upto_region 36 with fail
              refine tail36 ST.out HRM.out KN.out (fun _ _ _ _ h => h) (fun v' ra9 rc9 F9 hv' => ?_)
              have EV := Lib.hid hv'
              clear hv'
              have hi60 := HI2.out
              have hw : wrap64 ((i : Int) + 1) = ((i + 1 : Nat) : Int) := wrap_next i hi60
              go_wp2_with fail
              go_roundw
              case rel => exact ⟨i + 1, pj, bs, rs, HI.out, HI2.out, rfl, by first | rfl | rw [hw], Lib.hid (ST.out.later EV.out), Lib.hid (BV.out.trans (EV.out.mono BV.out.size)), Lib.hid (Nat.le_trans SV.out EV.out.size)⟩
              case measure => exact meas_next i hi60
          · as_aux_lemma =>
              have RA := Lib.hid (J4.out.full KN.out pa pl pc P IP4.out hf)
              have MK4 := Lib.hid (fun w5 (hb5 : Below w4.heap.size w4 w5) => fits_any (M4.out.later hb5) J4.out.few (by rw [← HRM.out]; have := K5.out; omega) pl)
              rw [decide_eq_false hf] at MK4
              clear hf q0 hm
              go_upto_region 36 with (first
                | (go_at_call 11; refine RA.out.mono ?_; rintro e w5 ⟨rfl, hb5⟩;
                   have J5 := Lib.hid (J4.out.later hb5); have M5 := Lib.hid (M4.out.later hb5); have G5 := Lib.hid (G4.out.below hb5 G4.out.lt); have BW5 := Lib.hid (BW4.out.trans (hb5.mono BW4.out.size)); have SZ5 := Lib.hid (Nat.le_trans SZ4.out hb5.size); have MF := Lib.hid (MK4.out w5 hb5); have q1' := G5.out.cellAt (i := 1) rfl;
                   clear hb5 RA MK4 q1)
                | (go_at_call 12; refine MF.out.mono ?_; rintro e v ⟨rfl, hb6⟩;
                   have BV := Lib.hid (BW5.out.trans (hb6.mono BW5.out.size)); have SV := Lib.hid (Nat.le_trans SZ5.out hb6.size);
                   obtain ⟨bs, rs, ST⟩ : ∃ bs rs, Hid (St v w1.heap.size pd pj pm n (i + 1) bs rs) := ⟨base, recs, Lib.hid ⟨(J5.out.later hb6).up, M5.out.later hb6⟩⟩;
                   clear hb6 MF q1' J5 M5 G5 BW5 SZ5))
              go_upto_region 36 with fail
              refine tail36 ST.out HRM.out KN.out (fun _ _ _ _ h => h) (fun v' ra9 rc9 F9 hv' => ?_)
              have EV := Lib.hid hv'
              clear hv'
              have hi60 := HI2.out
              have hw : wrap64 ((i : Int) + 1) = ((i + 1 : Nat) : Int) := wrap_next i hi60
              go_wp2_with fail
              go_roundw
              case rel => exact ⟨i + 1, pj, bs, rs, HI.out, HI2.out, rfl, by first | rfl | rw [hw], Lib.hid (ST.out.later EV.out), Lib.hid (BV.out.trans (EV.out.mono BV.out.size)), Lib.hid (Nat.le_trans SV.out EV.out.size)⟩
              case measure => exact meas_next i hi60
      · as_aux_lemma =>
          have hm : z.tmod 6 = 1 := hm1
          clear hm1
          go_upto_region 21 with fail
          have q1 := G4.out.cellAt (i := 1) rfl
          by_cases hf : usedL base recs + 32 + pl ≤ 256 * half n
          · as_aux_lemma =>
              have RA := Lib.hid (J4.out.app (HLW.out.below BW4.out HLW.out.two) HGB.out KN.out HI2.out pa pl pc P IP4.out HOLD.out SZ4.out hf)
              have MK4 := Lib.hid (fun w5 (hk5 : Kp jT w1.heap.size w4 w5) => fits_any (M4.out.kp hk5 (by decide) (by decide)) J4.out.few (by rw [← HRM.out]; have := K5.out; omega) pl)
              rw [decide_eq_true hf] at MK4
              clear hf q0 hm
              go_upto_region 25 with (first
                | (go_at_call 11; refine RA.out.mono ?_; rintro e w5 ⟨rfl, hj5, hk5⟩;
                   have J5 := Lib.hid hj5; have M5 := Lib.hid (M4.out.kp hk5 (by decide) (by decide)); have G5 := Lib.hid (G4.out.kp hk5 (by decide)); have BW5 := Lib.hid (BW4.out.trans ((hk5.below SZ4.out).mono HW1.out)); have SZ5 := Lib.hid (Nat.le_trans SZ4.out hk5.size); have MF := Lib.hid (MK4.out w5 hk5); have q1' := G5.out.cellAt (i := 1) rfl;
                   clear hj5 hk5 RA MK4 q1)
                | (go_at_call 12; refine MF.out.mono ?_; rintro e w6 ⟨rfl, hb6⟩;
                   have J6 := Lib.hid (J5.out.later hb6); have M6 := Lib.hid (M5.out.later hb6); have G6 := Lib.hid (G5.out.below hb6 G5.out.lt); have BW6 := Lib.hid (BW5.out.trans (hb6.mono BW5.out.size)); have SZ6 := Lib.hid (Nat.le_trans SZ5.out hb6.size);
                   clear hb6 MF q1'))
              have HRL : Hid (recs.length ≤ 1000000) := Lib.hid (by have h1 := J4.out.few; have h2 := On_few base recs; have h3 := K5.out; rw [← HRM.out] at h1; omega)
              refine add25 J6.out M6.out G6.out HIB.out BW6.out HW1.out SZ6.out HRM.out HRL.out (fun _ _ _ _ h => h) (fun v ra9 rn9 rc9 ga9 ca9 bl9 T9 hst9 hb9 hs9 => ?_)
              obtain ⟨bs, rs, ST⟩ : ∃ bs rs, Hid (St v w1.heap.size pd pj pm n (i + 1) bs rs) := ⟨base, recs ++ [P], Lib.hid hst9⟩
              have BV := Lib.hid hb9
              have SV := Lib.hid hs9
              clear hst9 hb9 hs9 J5 M5 G5 BW5 SZ5 J6 M6 G6 BW6 SZ6
              go_upto_region 36 with fail
              refine tail36 ST.out HRM.out KN.out (fun _ _ _ _ h => h) (fun v' ra9 rc9 F9 hv' => ?_)
              have EV := Lib.hid hv'
              clear hv'
              have hi60 := HI2.out
              have hw : wrap64 ((i : Int) + 1) = ((i + 1 : Nat) : Int) := wrap_next i hi60
              go_wp2_with fail
              go_roundw
              case rel => exact ⟨i + 1, pj, bs, rs, HI.out, HI2.out, rfl, by first | rfl | rw [hw], Lib.hid (ST.out.later EV.out), Lib.hid (BV.out.trans (EV.out.mono BV.out.size)), Lib.hid (Nat.le_trans SV.out EV.out.size)⟩
              case measure => exact meas_next i hi60
          · as_aux_lemma =>
              have RA := Lib.hid (J4.out.full KN.out pa pl pc P IP4.out hf)
              have MK4 := Lib.hid (fun w5 (hb5 : Below w4.heap.size w4 w5) => fits_any (M4.out.later hb5) J4.out.few (by rw [← HRM.out]; have := K5.out; omega) pl)
              rw [decide_eq_false hf] at MK4
              clear hf q0 hm
              go_upto_region 36 with (first
                | (go_at_call 11; refine RA.out.mono ?_; rintro e w5 ⟨rfl, hb5⟩;
                   have J5 := Lib.hid (J4.out.later hb5); have M5 := Lib.hid (M4.out.later hb5); have G5 := Lib.hid (G4.out.below hb5 G4.out.lt); have BW5 := Lib.hid (BW4.out.trans (hb5.mono BW4.out.size)); have SZ5 := Lib.hid (Nat.le_trans SZ4.out hb5.size); have MF := Lib.hid (MK4.out w5 hb5); have q1' := G5.out.cellAt (i := 1) rfl;
                   clear hb5 RA MK4 q1)
                | (go_at_call 12; refine MF.out.mono ?_; rintro e v ⟨rfl, hb6⟩;
                   have BV := Lib.hid (BW5.out.trans (hb6.mono BW5.out.size)); have SV := Lib.hid (Nat.le_trans SZ5.out hb6.size);
                   obtain ⟨bs, rs, ST⟩ : ∃ bs rs, Hid (St v w1.heap.size pd pj pm n (i + 1) bs rs) := ⟨base, recs, Lib.hid ⟨(J5.out.later hb6).up, M5.out.later hb6⟩⟩;
                   clear hb6 MF q1' J5 M5 G5 BW5 SZ5))
              go_upto_region 36 with fail
              refine tail36 ST.out HRM.out KN.out (fun _ _ _ _ h => h) (fun v' ra9 rc9 F9 hv' => ?_)
              have EV := Lib.hid hv'
              clear hv'
              have hi60 := HI2.out
              have hw : wrap64 ((i : Int) + 1) = ((i + 1 : Nat) : Int) := wrap_next i hi60
              go_wp2_with fail
              go_roundw
              case rel => exact ⟨i + 1, pj, bs, rs, HI.out, HI2.out, rfl, by first | rfl | rw [hw], Lib.hid (ST.out.later EV.out), Lib.hid (BV.out.trans (EV.out.mono BV.out.size)), Lib.hid (Nat.le_trans SV.out EV.out.size)⟩
              case measure => exact meas_next i hi60
      · as_aux_lemma =>
          have hm : z.tmod 6 = 2 := hm1
          clear hm1
          go_upto_region 21 with fail
          have q1 := G4.out.cellAt (i := 1) rfl
          by_cases hf : usedL base recs + 32 + pl ≤ 256 * half n
          · as_aux_lemma =>
              have RA := Lib.hid (J4.out.app (HLW.out.below BW4.out HLW.out.two) HGB.out KN.out HI2.out pa pl pc P IP4.out HOLD.out SZ4.out hf)
              have MK4 := Lib.hid (fun w5 (hk5 : Kp jT w1.heap.size w4 w5) => fits_any (M4.out.kp hk5 (by decide) (by decide)) J4.out.few (by rw [← HRM.out]; have := K5.out; omega) pl)
              rw [decide_eq_true hf] at MK4
              clear hf q0 hm
              go_upto_region 25 with (first
                | (go_at_call 11; refine RA.out.mono ?_; rintro e w5 ⟨rfl, hj5, hk5⟩;
                   have J5 := Lib.hid hj5; have M5 := Lib.hid (M4.out.kp hk5 (by decide) (by decide)); have G5 := Lib.hid (G4.out.kp hk5 (by decide)); have BW5 := Lib.hid (BW4.out.trans ((hk5.below SZ4.out).mono HW1.out)); have SZ5 := Lib.hid (Nat.le_trans SZ4.out hk5.size); have MF := Lib.hid (MK4.out w5 hk5); have q1' := G5.out.cellAt (i := 1) rfl;
                   clear hj5 hk5 RA MK4 q1)
                | (go_at_call 12; refine MF.out.mono ?_; rintro e w6 ⟨rfl, hb6⟩;
                   have J6 := Lib.hid (J5.out.later hb6); have M6 := Lib.hid (M5.out.later hb6); have G6 := Lib.hid (G5.out.below hb6 G5.out.lt); have BW6 := Lib.hid (BW5.out.trans (hb6.mono BW5.out.size)); have SZ6 := Lib.hid (Nat.le_trans SZ5.out hb6.size);
                   clear hb6 MF q1'))
              have HRL : Hid (recs.length ≤ 1000000) := Lib.hid (by have h1 := J4.out.few; have h2 := On_few base recs; have h3 := K5.out; rw [← HRM.out] at h1; omega)
              refine add25 J6.out M6.out G6.out HIB.out BW6.out HW1.out SZ6.out HRM.out HRL.out (fun _ _ _ _ h => h) (fun v ra9 rn9 rc9 ga9 ca9 bl9 T9 hst9 hb9 hs9 => ?_)
              obtain ⟨bs, rs, ST⟩ : ∃ bs rs, Hid (St v w1.heap.size pd pj pm n (i + 1) bs rs) := ⟨base, recs ++ [P], Lib.hid hst9⟩
              have BV := Lib.hid hb9
              have SV := Lib.hid hs9
              clear hst9 hb9 hs9 J5 M5 G5 BW5 SZ5 J6 M6 G6 BW6 SZ6
              go_upto_region 36 with fail
              refine tail36 ST.out HRM.out KN.out (fun _ _ _ _ h => h) (fun v' ra9 rc9 F9 hv' => ?_)
              have EV := Lib.hid hv'
              clear hv'
              have hi60 := HI2.out
              have hw : wrap64 ((i : Int) + 1) = ((i + 1 : Nat) : Int) := wrap_next i hi60
              go_wp2_with fail
              go_roundw
              case rel => exact ⟨i + 1, pj, bs, rs, HI.out, HI2.out, rfl, by first | rfl | rw [hw], Lib.hid (ST.out.later EV.out), Lib.hid (BV.out.trans (EV.out.mono BV.out.size)), Lib.hid (Nat.le_trans SV.out EV.out.size)⟩
              case measure => exact meas_next i hi60
          · as_aux_lemma =>
              have RA := Lib.hid (J4.out.full KN.out pa pl pc P IP4.out hf)
              have MK4 := Lib.hid (fun w5 (hb5 : Below w4.heap.size w4 w5) => fits_any (M4.out.later hb5) J4.out.few (by rw [← HRM.out]; have := K5.out; omega) pl)
              rw [decide_eq_false hf] at MK4
              clear hf q0 hm
              go_upto_region 36 with (first
                | (go_at_call 11; refine RA.out.mono ?_; rintro e w5 ⟨rfl, hb5⟩;
                   have J5 := Lib.hid (J4.out.later hb5); have M5 := Lib.hid (M4.out.later hb5); have G5 := Lib.hid (G4.out.below hb5 G4.out.lt); have BW5 := Lib.hid (BW4.out.trans (hb5.mono BW4.out.size)); have SZ5 := Lib.hid (Nat.le_trans SZ4.out hb5.size); have MF := Lib.hid (MK4.out w5 hb5); have q1' := G5.out.cellAt (i := 1) rfl;
                   clear hb5 RA MK4 q1)
                | (go_at_call 12; refine MF.out.mono ?_; rintro e v ⟨rfl, hb6⟩;
                   have BV := Lib.hid (BW5.out.trans (hb6.mono BW5.out.size)); have SV := Lib.hid (Nat.le_trans SZ5.out hb6.size);
                   obtain ⟨bs, rs, ST⟩ : ∃ bs rs, Hid (St v w1.heap.size pd pj pm n (i + 1) bs rs) := ⟨base, recs, Lib.hid ⟨(J5.out.later hb6).up, M5.out.later hb6⟩⟩;
                   clear hb6 MF q1' J5 M5 G5 BW5 SZ5))
              go_upto_region 36 with fail
              refine tail36 ST.out HRM.out KN.out (fun _ _ _ _ h => h) (fun v' ra9 rc9 F9 hv' => ?_)
              have EV := Lib.hid hv'
              clear hv'
              have hi60 := HI2.out
              have hw : wrap64 ((i : Int) + 1) = ((i + 1 : Nat) : Int) := wrap_next i hi60
              go_wp2_with fail
              go_roundw
              case rel => exact ⟨i + 1, pj, bs, rs, HI.out, HI2.out, rfl, by first | rfl | rw [hw], Lib.hid (ST.out.later EV.out), Lib.hid (BV.out.trans (EV.out.mono BV.out.size)), Lib.hid (Nat.le_trans SV.out EV.out.size)⟩
              case measure => exact meas_next i hi60
      · as_aux_lemma =>
          have hm : z.tmod 6 = 3 := hm1
          clear hm1
          go_upto_region 29 with fail
          have q1 := G4.out.cellAt (i := 1) rfl
          have er : wrap64 ((RM : Int) - 32) = (RM : Int) - 32 := by have := K5.out; unfold wrap64; omega
          by_cases hf : 32 + pl ≤ 256 * half n
          · as_aux_lemma =>
            have RA := Lib.hid (J4.out.reset (HLW.out.below BW4.out HLW.out.two) HGB.out KN.out HI2.out pa pl pc P IP4.out SZ4.out hf)
            have hi : ¬ (RM : Int) - 32 < (pl : Int) := by have h1 := HRM.out; omega
            clear hf q0 hm
            go_upto_region 30 with (go_at_call 13; refine RA.out.mono ?_; rintro e w5 ⟨rfl, hj5, hk5⟩)
            have J5 := Lib.hid hj5
            have M5 := Lib.hid (M4.out.kp hk5 (by decide) (by decide))
            have G5 := Lib.hid (G4.out.kp hk5 (by decide))
            have BW5 := Lib.hid (BW4.out.trans ((hk5.below SZ4.out).mono HW1.out))
            have SZ5 := Lib.hid (Nat.le_trans SZ4.out hk5.size)
            clear hj5 hk5 RA q1
            obtain ⟨⟨rV, hbx, hown⟩, hpmB⟩ := M5.out
            obtain ⟨ra, rn, rc, rfl⟩ := row_slice hown
            rw [← HRM.out] at hbx
            have HBX := Lib.hid hbx
            have HPM := Lib.hid hpmB
            have q1 := G5.out.cellAt (i := 1) rfl
            have m2 := hbx.cellAt (i := 2) rfl
            clear hbx hown hpmB
            go_quiet (fail)
            obtain ⟨w6, hw6⟩ : ∃ w6, w6 = w5.drewN nq := ⟨_, rfl⟩
            have B56 : Hid (Below w5.heap.size w5 w6) := Lib.hid (by rw [hw6]; repeat (first | exact Below.refl _ _ | apply below_drewN))
            rw [← hw6]
            clear hw6 q1 m2
            have J6 := Lib.hid (J5.out.later B56.out)
            have G6 := Lib.hid (G5.out.below B56.out G5.out.lt)
            have X6 := Lib.hid (HBX.out.below B56.out HBX.out.lt)
            have BW6 := Lib.hid (BW5.out.trans (B56.out.mono BW5.out.size))
            have SZ6 := Lib.hid (Nat.le_trans SZ5.out B56.out.size)
            clear J5 M5 G5 BW5 SZ5
            go_upto_region 33 with fail
            obtain ⟨T, hT⟩ : ∃ T : ByteArray, T = ⟨P.toArray⟩ := ⟨_, rfl⟩
            have hcv : (convert 33 9 (.slice pa pl pc)).run Tryz.prog w6 = .ok (.string T) w6 := by rw [hT]; exact conv_isB (HIB.out.later BW6.out)
            have HT : Hid (sv P = .string T) := Lib.hid (by rw [hT]; rfl)
            have q1 := G6.out.cellAt (i := 1) rfl
            have m0 := X6.out.cellAt (i := 0) rfl
            have f0 := X6.out.frozen 0
            have X7 : Hid (Has (w6.setCell ⟨pm, 0, none⟩ (.string T)) pm (mC P (.slice ra rn rc) RM) tMod) := Lib.hid (by have h := X6.out.set 0 (.string T); rw [← HT.out] at h ⊢; exact h)
            have m1 := X7.out.cellAt (i := 1) rfl
            have f1 := X7.out.frozen 1
            clear hT
            go_upto_region 34 with fail
            obtain ⟨v, hv⟩ : ∃ v, v = (w6.setCell ⟨pm, 0, none⟩ (.string T)).setCell ⟨pm, 1, none⟩ (.slice none 0 0) := ⟨_, rfl⟩
            rw [← hv]
            have X8 : Hid (Has v pm (mC P (.slice none 0 0) RM) tMod) := Lib.hid (by rw [hv]; exact X7.out.set 1 _)
            have Kv : Hid (Kp [tMod] w1.heap.size w6 v) := Lib.hid (by rw [hv]; exact (Kp.of_but ((But.refl _ _ _).setB 0 _) HPM.out X6.out (by decide)).trans (Kp.of_but ((But.refl _ _ _).setB 1 _) HPM.out X7.out (by decide)))
            clear hv hcv q1 m0 f0 m1 f1
            have J7 := Lib.hid (J6.out.kp Kv.out (by decide) (by decide) (by decide) (by decide) (by decide) (by decide))
            have BV := Lib.hid (BW6.out.trans ((Kv.out.below SZ6.out).mono HW1.out))
            have SV := Lib.hid (Nat.le_trans SZ6.out Kv.out.size)
            obtain ⟨bs, rs, ST⟩ : ∃ bs rs, Hid (St v w1.heap.size pd pj pm n (i + 1) bs rs) := ⟨P, [], Lib.hid ⟨J7.out, ⟨⟨_, by rw [← HRM.out]; exact X8.out, World.ownsRow_nil _ _ _ _⟩, HPM.out⟩⟩⟩
            clear J7 X8 X7 X6 Kv J6 G6 BW6 SZ6 HT
            go_upto_region 36 with fail
            refine tail36 ST.out HRM.out KN.out (fun _ _ _ _ h => h) (fun v' ra9 rc9 F9 hv' => ?_)
            have EV := Lib.hid hv'
            clear hv'
            have hi60 := HI2.out
            have hw : wrap64 ((i : Int) + 1) = ((i + 1 : Nat) : Int) := wrap_next i hi60
            go_wp2_with fail
            go_roundw
            case rel => exact ⟨i + 1, pj, bs, rs, HI.out, HI2.out, rfl, by first | rfl | rw [hw], Lib.hid (ST.out.later EV.out), Lib.hid (BV.out.trans (EV.out.mono BV.out.size)), Lib.hid (Nat.le_trans SV.out EV.out.size)⟩
            case measure => exact meas_next i hi60
          · as_aux_lemma =>
            have RA := Lib.hid (J4.out.resetfull KN.out pa pl pc hf)
            have hi : (RM : Int) - 32 < (pl : Int) := by have h1 := HRM.out; have h2 := K4.out; omega
            clear hf q0 hm
            go_upto_region 30 with (go_at_call 13; refine RA.out.mono ?_; rintro e w5 ⟨rfl, hb5⟩)
            have J5 := Lib.hid (J4.out.later hb5)
            have M5 := Lib.hid (M4.out.later hb5)
            have G5 := Lib.hid (G4.out.below hb5 G4.out.lt)
            have BW5 := Lib.hid (BW4.out.trans (hb5.mono BW4.out.size))
            have SZ5 := Lib.hid (Nat.le_trans SZ4.out hb5.size)
            clear hb5 RA q1
            obtain ⟨⟨rV, hbx, hown⟩, hpmB⟩ := M5.out
            rw [← HRM.out] at hbx
            have q1 := G5.out.cellAt (i := 1) rfl
            have m2 := hbx.cellAt (i := 2) rfl
            clear hbx hown hpmB
            go_quiet (fail)
            obtain ⟨v, hw6⟩ : ∃ v, v = w5.drewN nq := ⟨_, rfl⟩
            have B56 : Hid (Below w5.heap.size w5 v) := Lib.hid (by rw [hw6]; repeat (first | exact Below.refl _ _ | apply below_drewN))
            rw [← hw6]
            clear hw6 q1 m2
            have BV := Lib.hid (BW5.out.trans (B56.out.mono BW5.out.size))
            have SV := Lib.hid (Nat.le_trans SZ5.out B56.out.size)
            obtain ⟨bs, rs, ST⟩ : ∃ bs rs, Hid (St v w1.heap.size pd pj pm n (i + 1) bs rs) := ⟨base, recs, Lib.hid ⟨(J5.out.later B56.out).up, M5.out.later B56.out⟩⟩
            clear J5 M5 G5 BW5 SZ5
            go_upto_region 36 with fail
            refine tail36 ST.out HRM.out KN.out (fun _ _ _ _ h => h) (fun v' ra9 rc9 F9 hv' => ?_)
            have EV := Lib.hid hv'
            clear hv'
            have hi60 := HI2.out
            have hw : wrap64 ((i : Int) + 1) = ((i + 1 : Nat) : Int) := wrap_next i hi60
            go_wp2_with fail
            go_roundw
            case rel => exact ⟨i + 1, pj, bs, rs, HI.out, HI2.out, rfl, by first | rfl | rw [hw], Lib.hid (ST.out.later EV.out), Lib.hid (BV.out.trans (EV.out.mono BV.out.size)), Lib.hid (Nat.le_trans SV.out EV.out.size)⟩
            case measure => exact meas_next i hi60
      · as_aux_lemma =>
          have hm : z.tmod 6 = 4 := hm1
          clear hm1
          have RT := Lib.hid (J4.out.restart KN.out HI2.out)
          go_upto_region 36 with (first
            | (go_at_call 14; refine RT.out.mono ?_; rintro e w5 ⟨rfl, hk5, ho5⟩;
               have BW5 := Lib.hid (BW4.out.trans ((hk5.below SZ4.out).mono HW1.out)); have SZ5 := Lib.hid (Nat.le_trans SZ4.out hk5.size); have M5 := Lib.hid (M4.out.kp hk5 (by decide) (by decide));
               have RO := Lib.hid (ho5 (HLW.out.below BW5.out HLW.out.two) SZ5.out);
               clear hk5 ho5 RT)
            | (go_at_call 15; refine RO.out.mono ?_; rintro e v ⟨pq, rfl, hj6, hb6⟩;
               have BV := Lib.hid (BW5.out.trans (hb6.mono BW5.out.size)); have SV := Lib.hid (Nat.le_trans SZ5.out hb6.size);
               obtain ⟨bs, rs, ST⟩ : ∃ bs rs, Hid (St v w1.heap.size pd pq pm n (i + 1) bs rs) := ⟨base, recs, Lib.hid ⟨hj6, M5.out.later hb6⟩⟩;
               clear hj6 hb6 RO M5 BW5 SZ5))
          go_upto_region 36 with fail
          refine tail36 ST.out HRM.out KN.out (fun _ _ _ _ h => h) (fun v' ra9 rc9 F9 hv' => ?_)
          have EV := Lib.hid hv'
          clear hv'
          have hi60 := HI2.out
          have hw : wrap64 ((i : Int) + 1) = ((i + 1 : Nat) : Int) := wrap_next i hi60
          go_wp2_with fail
          go_roundw
          case rel => exact ⟨i + 1, pq, bs, rs, HI.out, HI2.out, rfl, by first | rfl | rw [hw], Lib.hid (ST.out.later EV.out), Lib.hid (BV.out.trans (EV.out.mono BV.out.size)), Lib.hid (Nat.le_trans SV.out EV.out.size)⟩
          case measure => exact meas_next i hi60
      · as_aux_lemma =>
          have hm : z.tmod 6 = 5 := hm1
          clear hm1
          have RT := Lib.hid (J4.out.restart KN.out HI2.out)
          go_upto_region 36 with (first
            | (go_at_call 14; refine RT.out.mono ?_; rintro e w5 ⟨rfl, hk5, ho5⟩;
               have BW5 := Lib.hid (BW4.out.trans ((hk5.below SZ4.out).mono HW1.out)); have SZ5 := Lib.hid (Nat.le_trans SZ4.out hk5.size); have M5 := Lib.hid (M4.out.kp hk5 (by decide) (by decide));
               have RO := Lib.hid (ho5 (HLW.out.below BW5.out HLW.out.two) SZ5.out);
               clear hk5 ho5 RT)
            | (go_at_call 15; refine RO.out.mono ?_; rintro e v ⟨pq, rfl, hj6, hb6⟩;
               have BV := Lib.hid (BW5.out.trans (hb6.mono BW5.out.size)); have SV := Lib.hid (Nat.le_trans SZ5.out hb6.size);
               obtain ⟨bs, rs, ST⟩ : ∃ bs rs, Hid (St v w1.heap.size pd pq pm n (i + 1) bs rs) := ⟨base, recs, Lib.hid ⟨hj6, M5.out.later hb6⟩⟩;
               clear hj6 hb6 RO M5 BW5 SZ5))
          go_upto_region 36 with fail
          refine tail36 ST.out HRM.out KN.out (fun _ _ _ _ h => h) (fun v' ra9 rc9 F9 hv' => ?_)
          have EV := Lib.hid hv'
          clear hv'
          have hi60 := HI2.out
          have hw : wrap64 ((i : Int) + 1) = ((i + 1 : Nat) : Int) := wrap_next i hi60
          go_wp2_with fail
          go_roundw
          case rel => exact ⟨i + 1, pq, bs, rs, HI.out, HI2.out, rfl, by first | rfl | rw [hw], Lib.hid (ST.out.later EV.out), Lib.hid (BV.out.trans (EV.out.mono BV.out.size)), Lib.hid (Nat.le_trans SV.out EV.out.size)⟩
          case measure => exact meas_next i hi60
    · by_cases h1 : i < sl
      · have h2i : ¬ (i : Int) < 60 := by omega
        have h1i : (i : Int) < (sl : Int) := by omega
        go_wp2_with fail
        go_ret
        exact ⟨rfl, hB.out⟩
      · have h1i : ¬ (i : Int) < (sl : Int) := by omega
        go_wp2_with fail
        go_ret
        exact ⟨rfl, hB.out⟩

end Go.Proofs.YtgjckddcnmbceaaGreatDoor
