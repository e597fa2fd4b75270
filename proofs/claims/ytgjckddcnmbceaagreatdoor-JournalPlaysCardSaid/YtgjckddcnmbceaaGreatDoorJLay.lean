/-
  The contract of lay. Conditions: the device is as Dv says; the bytes lie in old memory, or in blocks of bytes; they fit.
-/
import Derived.Test.YtgjckddcnmbceaaGreatDoorJPoint
import Derived.Test.YtgjckddcnmbceaaGreatDoorJTrim
namespace Go.Proofs.YtgjckddcnmbceaaGreatDoor
open Go.RowKit
set_option linter.unusedVariables false

theorem splice_nil {D : List UInt8} (o : Nat) : splice D o [] = D := by simp [splice]
theorem splice_step {D p : List UInt8} (o d n : Nat) (h : o + p.length ≤ D.length) (hd : d + n ≤ p.length) : splice (splice D o (p.take d)) (o + d) ((p.drop d).take n) = splice D o (p.take (d + n)) := by
  have h1 : (p.take d).length = d := by simp; omega
  have h2 : ((p.drop d).take n).length = n := by simp; omega
  have h3 : (p.take (d + n)).length = d + n := by simp; omega
  refine List.ext_getElem? fun k => ?_
  rw [splice_get (by rw [length_splice _ _ _ (by omega)]; omega), splice_get (by omega), splice_get (by omega), h1, h2, h3]
  by_cases c1 : o + d ≤ k ∧ k < o + d + n
  · rw [if_pos c1, if_pos (by omega), List.getElem?_take_of_lt (by omega), List.getElem?_drop, List.getElem?_take_of_lt (by omega)]
    congr 1; omega
  · rw [if_neg c1]
    by_cases c2 : o ≤ k ∧ k < o + d
    · rw [if_pos c2, if_pos (by omega), List.getElem?_take_of_lt (by omega), List.getElem?_take_of_lt (by omega)]
    · rw [if_neg c2, if_neg (by omega)]
/-- A sector that is written with a few bytes turned. -/
theorem splice_sec {D x : List UInt8} {n i r : Nat} (h : D.length = 256 * n) (hi : i < n) (hr : r + x.length ≤ 256) : splice D (256 * i) (splice (sec D i) r x) = splice D (256 * i + r) x := by
  have hs := sec_length h hi
  have hf := fits h hi (Nat.le_refl 256)
  have hl : (splice (sec D i) r x).length = 256 := by rw [length_splice _ _ _ (by omega), hs]
  refine List.ext_getElem? fun k => ?_
  rw [splice_get (by omega), splice_get (by omega), hl]
  by_cases c1 : 256 * i ≤ k ∧ k < 256 * i + 256
  · rw [if_pos c1, splice_get (by omega)]
    by_cases c2 : 256 * i + r ≤ k ∧ k < 256 * i + r + x.length
    · rw [if_pos (by omega), if_pos c2]; congr 1; omega
    · rw [if_neg (by omega), if_neg c2, sec_get (by omega)]; congr 1; omega
  · rw [if_neg c1, splice_get (by omega), if_neg (by omega)]
theorem splice_same {D : List UInt8} {n i : Nat} (h : D.length = 256 * n) (hi : i < n) : splice D (256 * i) (sec D i) = D := by
  have hs := sec_length h hi
  have hf := fits h hi (Nat.le_refl 256)
  refine List.ext_getElem? fun k => ?_
  rw [splice_get (by omega), hs]
  by_cases c1 : 256 * i ≤ k ∧ k < 256 * i + 256
  · rw [if_pos c1, sec_get (by omega)]; congr 1; omega
  · rw [if_neg c1]

theorem isB_rest {w : World} {b off R c n : Nat} {l : List UInt8} (h : IsB w (some ⟨b, off, none⟩) R c l) (hn : n ≤ R) : IsB w (if c = n then some ⟨b, off, none⟩ else some ⟨b, off + n, none⟩) (R - n) (c - n) (l.drop n) := by
  have hr := h.room
  have hm := h.most
  have hl := h.length
  refine ⟨by rw [List.length_drop]; omega, ?_, (fun e => by split at e <;> cases e), ⟨by omega, by omega⟩, by omega⟩
  rcases Nat.eq_zero_or_pos (R - n) with h0 | h0
  · exact .inl h0
  · rcases h.at_ with h1 | ⟨b', o', e, hlt, hc⟩
    · omega
    · cases e
      refine .inr ⟨b, off + n, by rw [if_neg (by omega)], hlt, fun i hi => ?_⟩
      rw [show off + n + i = off + (n + i) by omega, hc (n + i) (by omega)]
      congr 4
      rw [List.getD_eq_getElem?_getD, List.getD_eq_getElem?_getD, List.getElem?_drop]
theorem splice_row {CL : List Value} {S X : List UInt8} {r : Nat} (h : CL.take 256 = S.map bv) (hS : S.length = 256) (hr : r + X.length ≤ 256) (hC : 256 ≤ CL.length) (i : Nat) (hi : i < 256) :
    (splice CL r (X.map bv))[i]? = some (bv ((splice S r X).getD i 0)) := by
  have hl : (splice S r X).length = 256 := by rw [length_splice _ _ _ (by omega), hS]
  have e : ((splice S r X).map bv)[i]? = some (bv ((splice S r X).getD i 0)) := map_bv_get _ i (by omega)
  rw [← e, ← splice_map, ← h]
  by_cases c1 : r ≤ i ∧ i < r + X.length
  · obtain ⟨j, rfl⟩ : ∃ j, i = r + j := ⟨i - r, by omega⟩
    rw [splice_in _ _ _ (by rw [List.length_map]; omega) j (by rw [List.length_map]; omega), splice_in _ _ _ (by rw [List.length_map, List.length_take]; omega) j (by rw [List.length_map]; omega)]
  · rw [splice_out _ _ _ (by rw [List.length_map]; omega) i (by rw [List.length_map]; omega), splice_out _ _ _ (by rw [List.length_map, List.length_take]; omega) i (by rw [List.length_map]; omega), List.getElem?_take_of_lt hi]
theorem kp_new {ts : List TypeId} {B g : Nat} {w x y : World} (h : Kp ts B w x) (hb : But x.heap.size g x y) (hg : w.heap.size ≤ g) : Kp ts B w y :=
  ⟨hb.os.trans h.os, hb.tape.trans h.tape, hb.output.trans h.output, Nat.le_trans h.size hb.size, fun k hk hx => (hb.block k (Nat.lt_of_lt_of_le hk h.size) (by omega)).trans (h.block k hk hx)⟩
theorem Safe.but {B b g : Nat} {x y : World} (h : Safe x B b) (hb : But x.heap.size g x y) (hne : b ≠ g) : Safe y B b :=
  ⟨Nat.lt_of_lt_of_le h.1 hb.size, h.2.imp id fun ⟨X, hX⟩ => ⟨X, hX.but hb hX.lt hne⟩⟩
theorem IsB.but {w w' : World} {b off n c g : Nat} {l : List UInt8} (h : IsB w (some ⟨b, off, none⟩) n c l) (hb : But w.heap.size g w w') (hne : b ≠ g) : IsB w' (some ⟨b, off, none⟩) n c l := by
  refine ⟨h.length, ?_, h.nil, h.room, h.most⟩
  rcases h.at_ with h0 | ⟨b', o', e, hlt, hc⟩
  · exact .inl h0
  · cases e
    exact .inr ⟨b, off, rfl, Nat.lt_of_lt_of_le hlt hb.size, fun i hi => (World.cell?_of_block (w := w) (hb.block b hlt hne)).trans (hc i hi)⟩
theorem Safe.kp2 {w w' : World} {B b : Nat} (h : Safe w B b) (hk : Kp devT B w w') : Safe w' B b :=
  ⟨Nat.lt_of_lt_of_le h.1 hk.size, h.2.imp id fun ⟨X, hX⟩ => ⟨X, (h.kp hk).trans hX⟩⟩
theorem IsB.kp2 {w w' : World} {B b off n c : Nat} {l : List UInt8} (h : IsB w (some ⟨b, off, none⟩) n c l) (hs : Safe w B b) (hk : Kp devT B w w') : IsB w' (some ⟨b, off, none⟩) n c l := by
  refine ⟨h.length, ?_, h.nil, h.room, h.most⟩
  rcases h.at_ with h0 | ⟨b', o', e, hlt, hc⟩
  · exact .inl h0
  · cases e
    exact .inr ⟨b, off, rfl, Nat.lt_of_lt_of_le hlt hk.size, fun i hi => (World.cell?_of_block (w := w) (hs.kp hk)).trans (hc i hi)⟩
/-- bytes.Clone of bytes that there are. -/
theorem clone_any (b off n c : Nat) (l : List UInt8) (w : World) (hp : IsB w (some ⟨b, off, none⟩) n c l) :
    Calls Tryz.prog 31 #[.slice (some ⟨b, off, none⟩) n c] w fun e w' => ∃ v', e = .returned v' ∧ w'.ownsRow w.heap.size 5 1 v' n (l.map bv) ∧ v' ≠ .slice none 0 0 ∧ Below w.heap.size w w' := by
  have hl := hp.length
  have h := Tryz.bytes_Clone_at ⟨b, off, none⟩ n c (l.map fun x => (x.toNat : Int)) w (by rw [List.length_map]; exact hl) hp.most (fun i hi => by
    rcases hp.at_ with h0 | ⟨b', off', e, hlt, hc⟩
    · omega
    · cases e
      rw [Addr.add_mid, hc i hi]
      congr 2
      rw [List.getD_eq_getElem?_getD, List.getD_eq_getElem?_getD, List.getElem?_map, List.getElem?_eq_getElem (by omega)]; rfl)
  rw [List.map_map] at h
  exact h

set_option maxRecDepth 100000 in
set_option maxHeartbeats 2000000 in
theorem lay_any {w : World} {B pd n m k : Nat} {L : List UInt8} (hd : Dv w B pd n L m k) (h place : Nat) (hh : h ≤ 1) (a : Option Addr) (len cap : Nat) (p : List UInt8) (hp : IsB w a len cap p)
    (hsafe : ∀ b off, a = some ⟨b, off, none⟩ → 0 < len → Safe w B b) (hn : 2 ≤ n) (hfit : place + len ≤ 256 * half n) (ho : k + len < 4611686018427387904) (hm : m + len ≤ 100000) (hB : B ≤ w.heap.size) :
    Calls Tryz.prog 41 #[.pointer (some ⟨pd, 0, none⟩), .int .i64 (h : Int), .int .i64 (place : Int), .slice a len cap] w
      fun e w' => e = .returned (.int .i64 0) ∧ Dv w' B pd n (splice L (256 * fst n h + place) p) (m + len) (k + len) ∧ Kp devT B w w' := by
  have hfe := fst_end (n := n) hh
  have hr := hd.room
  have hll := hd.ll
  have hlen := hp.length
  have hroom := hp.room
  unfold maxLen at hroom
  obtain ⟨f, hf⟩ : ∃ f, f = fst n h := ⟨_, rfl⟩
  obtain ⟨H, hH⟩ : ∃ H, H = half n := ⟨_, rfl⟩
  rw [← hf, ← hH] at hfe
  rw [← hH] at hfit
  rw [← hf]
  have HF : Hid (∀ w' (L' : List UInt8) (m' k' : Nat), Dv w' B pd n L' m' k' → Calls Tryz.prog 53 #[.pointer (some ⟨pd, 0, none⟩), .int .i64 (h : Int)] w' fun e w2 => e = .returned (.int .i64 (f : Int)) ∧ w' = w2) := Lib.hid (fun w' L' m' k' h' => by rw [hf]; exact first_any h' h hh)
  have hsz : (Tryz.prog.info? 5).map (·.size) = some 1 := by kernel_rfl
  have HSZ := Lib.hid hsz
  have HP := Lib.hid hp
  have HD := Lib.hid hd
  have HSF := Lib.hid hsafe
  have HLL := Lib.hid hll
  have HLEN := Lib.hid hlen
  have hfs : f ≤ 8192 := by omega
  have hHs : H ≤ 8192 := by omega
  have HO := Lib.hid ho
  have HM := Lib.hid hm
  have HFE : Hid (f + H ≤ n) := Lib.hid (by omega)
  clear hf hH hp hd hsafe hll hlen hsz hfe hr hn ho hm
  go_enter Tryz.func41, Tryz.ntmps41
  go_wp2_with fail
  go_loopw [2, 3] (fun pl v wr => ∃ (d : Nat) (a' : Option Addr) (c' : Nat), d ≤ len ∧ pl = .int .i64 ((place + d : Nat) : Int) ∧ v = .slice a' (len - d) c' ∧ Hid (IsB wr a' (len - d) c' (p.drop d)) ∧ Hid (∀ b off, a' = some ⟨b, off, none⟩ → 0 < len - d → Safe wr B b) ∧ Hid (Dv wr B pd n (splice L (256 * f + place) (p.take d)) (m + d) (k + d)) ∧ Hid (Kp devT B w wr)) (fun _ v _ => lenOf v)
  case atStart => exact ⟨0, a, cap, Nat.zero_le _, rfl, rfl, HP, HSF, Lib.hid (by rw [List.take_zero, splice_nil]; exact HD.out), Lib.hid (Kp.refl _ _ _)⟩
  case round =>
    obtain ⟨d, a', c', hdl, rfl, rfl, hp, hs, hD, hK⟩ := hrel
    by_cases hlt : d < len
    · obtain ⟨R, hR⟩ : ∃ R, R = len - d := ⟨_, rfl⟩
      have hR0 : (0 : Int) < (R : Int) := by omega
      obtain ⟨P, hP⟩ : ∃ P, P = place + d := ⟨_, rfl⟩
      obtain ⟨q, hq⟩ : ∃ q, q = P / 256 := ⟨_, rfl⟩
      obtain ⟨r, hr⟩ : ∃ r, r = P % 256 := ⟨_, rfl⟩
      have hqi : (P : Int).tdiv 256 = (q : Int) := by rw [Int.tdiv_eq_ediv_of_nonneg (by omega)]; omega
      have hri : (P : Int).tmod 256 = (r : Int) := by rw [Int.tmod_eq_emod_of_nonneg (by omega)]; omega
      have hr256 : r < 256 := by omega
      have hPq : P = 256 * q + r := by omega
      have hqH : q < H := by omega
      rw [← hR] at hp hs ⊢
      rw [← hP]
      have hPs : P ≤ 3000000 := by omega
      obtain ⟨F, hF⟩ : ∃ F, F = f + q := ⟨_, rfl⟩
      have hFi : (f : Int) + (q : Int) = (F : Int) := by omega
      have hFs : F ≤ 16384 := by omega
      have hFn : Hid (F < n) := Lib.hid (by have := HFE.out; omega)
      obtain ⟨D, hDd⟩ : ∃ D, D = splice L (256 * f + place) (p.take d) := ⟨_, rfl⟩
      rw [← hDd] at hD
      have HFr := Lib.hid (HF.out _ _ _ _ hD.out)
      have HRd := Lib.hid (dread hD.out F hFn.out)
      have HSL : Hid ((sec D F).length = 256) := Lib.hid (sec_length hD.out.ll hFn.out)
      obtain ⟨S, hS⟩ : ∃ S, S = sec D F := ⟨_, rfl⟩
      rw [← hS] at HRd HSL
      have HS := Lib.hid hS
      have HDD := Lib.hid hDd
      have HRR := Lib.hid hR
      have HPP := Lib.hid hP
      have HPQ := Lib.hid hPq
      have HFF := Lib.hid hF
      clear hS hDd hR hP hPq hF hq hr
      go_upto_region 6 with (first | (go_at_call 53; refine HFr.out.mono ?_; rintro e w1 ⟨rfl, rfl⟩) | (go_at_call 50; refine HRd.out.mono ?_; rintro e w2 ⟨b2, rfl, hh2, hlo2, hb2⟩))
      have I2 := Lib.hid (isB_has hh2 (by rw [HSL.out]; omega))
      rw [HSL.out] at I2
      have H2 := Lib.hid hh2
      have HC2 := Lib.hid (clone_any b2 0 256 256 S w2 I2.out)
      have S2 : Hid (b2 < w2.heap.size) := Lib.hid hh2.lt
      have D2 := Lib.hid (hD.out.later hb2)
      have P2 := Lib.hid (hp.out.later hb2)
      have F2 : Hid (∀ b off, a' = some ⟨b, off, none⟩ → Safe w2 B b) := Lib.hid (fun b off e => by
        have s := hs.out b off e (by omega)
        refine ⟨Nat.lt_of_lt_of_le s.1 hb2.size, s.2.imp id fun ⟨X, hX⟩ => ⟨X, hX.below hb2 hX.lt⟩⟩)
      have K2 := Lib.hid (hK.out.trans (Kp.of_below (ts := devT) (B := B) hb2))
      clear hh2 hlo2 hb2 hD hp hs hK HRd HFr
      go_wp2_with fail
      refine HC2.out.mono ?_
      rintro e w3 ⟨v3, rfl, ho3, hn3, hb3⟩
      rcases ho3.2 with ⟨e3, _⟩ | ⟨g, c3, cur, rfl, hg3, hgg3, hle3, hmx3, hsz3, htk3⟩
      · exact absurd e3 hn3
      obtain ⟨CL⟩ := cur
      have D3 := Lib.hid (D2.out.later hb3)
      have P3 := Lib.hid (P2.out.later hb3)
      have F3 : Hid (∀ b off, a' = some ⟨b, off, none⟩ → Safe w3 B b) := Lib.hid (fun b off e => by
        have s := F2.out b off e
        refine ⟨Nat.lt_of_lt_of_le s.1 hb3.size, s.2.imp id fun ⟨X, hX⟩ => ⟨X, hX.below hb3 hX.lt⟩⟩)
      have K3 := Lib.hid (K2.out.trans (Kp.of_below (ts := devT) (B := B) hb3))
      have H3 := Lib.hid (H2.out.below hb3 S2.out)
      have HG3 : Hid (w3.heap[g]? = some (.cells CL.toArray 5 (0, 0))) := Lib.hid hgg3
      have HTK : Hid (CL.take 256 = S.map bv) := Lib.hid (by simpa using htk3)
      have HCL : Hid (CL.length = c3) := Lib.hid (by simpa using hsz3)
      have hg2 : Hid (b2 ≠ g) := Lib.hid (by have := S2.out; omega)
      have HBg : Hid (B ≤ w3.heap.size) := Lib.hid (Nat.le_trans hB K3.out.size)
      have hc3 : 256 ≤ c3 := hle3
      have hc3m : c3 ≤ 9223372036854775807 := by unfold maxLen at hmx3; omega
      obtain ⟨b', off', rfl⟩ : ∃ b' off', a' = some ⟨b', off', none⟩ := by
        rcases P3.out.at_ with h0 | ⟨b', off', e, _⟩
        · omega
        · exact ⟨b', off', e⟩
      have SB3 := Lib.hid (F3.out b' off' rfl)
      have hbg : Hid (b' ≠ g) := Lib.hid (by have := (F2.out b' off' rfl).1; omega)
      have hgw : Hid (w.heap.size ≤ g) := Lib.hid (Nat.le_trans K2.out.size hg3)
      clear ho3 hn3 hb3 hgg3 hle3 hmx3 hsz3 htk3 HC2 D2 P2 F2 K2 H2 I2 hg3 S2
      obtain ⟨X, hX⟩ : ∃ X, X = (p.drop d).take (256 - r) := ⟨_, rfl⟩
      have hXl : X.length = Nat.min R (256 - r) := by rw [hX, List.length_take, List.length_drop, HLEN.out, HRR.out]; exact Nat.min_comm _ _
      have HXX := Lib.hid hX
      obtain ⟨N, hN⟩ : ∃ N, N = X.length := ⟨_, rfl⟩
      have hN1 : 1 ≤ N := by rw [hN, hXl]; exact Nat.le_min.2 ⟨by omega, by omega⟩
      have hNR : N ≤ R := by rw [hN, hXl]; exact Nat.min_le_left _ _
      have hNr : N ≤ 256 - r := by rw [hN, hXl]; exact Nat.min_le_right _ _
      have hlenX : Hid ((X.map bv).length = Nat.min R (256 - r)) := Lib.hid (by rw [List.length_map, hXl])
      have hpos : Hid (0 < (X.map bv).length → ∃ ad, (some ⟨b', off', none⟩ : Option Addr) = some ad ∧ ∀ j v, (X.map bv)[j]? = some v → w3.cell? (ad.add j) = some v) := Lib.hid (by
        intro _
        rcases P3.out.at_ with h0 | ⟨b, off, e, hlt, hc⟩
        · omega
        · cases e
          refine ⟨_, rfl, fun j v hj => ?_⟩
          have hjl : j < X.length := by have := (List.getElem?_eq_some_iff.1 hj).1; simpa using this
          rw [map_bv_get X j hjl] at hj
          rw [Addr.add_mid, hc j (by omega), ← hj]
          show some (Value.int .u8 _) = some (bv _)
          unfold bv
          congr 4
          rw [hX, List.getD_eq_getElem?_getD, List.getD_eq_getElem?_getD, List.getElem?_take_of_lt (by omega)])
      have hfitX : Hid (r + (X.map bv).length ≤ CL.length) := Lib.hid (by rw [List.length_map, HCL.out]; omega)
      have hone := Lib.hid (bv_one X)
      have HN := Lib.hid hN
      have hcr : ¬ c3 = r := by omega
      have hr1 : (r : Int) ≤ 256 := by omega
      have hr2 : r ≤ c3 := by omega
      have hmin : ((X.map bv).length : Nat) = N := by rw [List.length_map, hN]
      have HMIN := Lib.hid hmin
      clear hX hXl hN hmin
      go_upto_region 8 with (refine hcopy_but rfl (.tmp 37) (.tmp 38) 33 33 rfl 5 Tryz.underlying33 HSZ.out (some ⟨g, r, none⟩) (some ⟨b', off', none⟩) (256 - r) (c3 - r) R c' rfl rfl g r CL 5 HG3.out (X.map bv) hlenX.out (fun h => ⟨rfl, hpos.out h⟩) hfitX.out hone.out ?_; intro w4 hg4 hb4)
      rw [← HN.out]
      obtain ⟨Nw, hNw⟩ : ∃ Nw, Nw = splice S r X := ⟨_, rfl⟩
      have HNwL : Hid (Nw.length = 256) := Lib.hid (by rw [hNw, length_splice _ _ _ (by have := HN.out; have := HSL.out; omega), HSL.out])
      have G4 : Hid (Has w4 g (splice CL r (X.map bv)) 5) := Lib.hid hg4.out
      have GC4 : Hid (∀ j, j < 256 → w4.cell? ⟨g, 0 + j, none⟩ = some (bv (Nw.getD j 0))) := Lib.hid (fun j hj => by
        rw [Nat.zero_add, hNw]
        exact G4.out.cellAt (splice_row HTK.out HSL.out (by have := HN.out; omega) (by rw [HCL.out]; exact hc3) j hj))
      have I4n : Hid (IsB w4 (some ⟨g, 0, none⟩) 256 c3 Nw) := Lib.hid ⟨HNwL.out, .inr ⟨g, 0, rfl, G4.out.lt, fun i hi => GC4.out i hi⟩, (fun e => by cases e), ⟨hc3, by unfold maxLen; omega⟩, by omega⟩
      have I4s : Hid (IsB w4 (some ⟨b2, 0, none⟩) 256 256 S) := Lib.hid (by
        have h := isB_has (H3.out.but hb4.out H3.out.lt hg2.out) (by rw [HSL.out]; omega)
        rw [HSL.out] at h; exact h)
      have D4 := Lib.hid (D3.out.kp (ts := [5]) (B' := 0) (Kp.of_but hb4.out (Nat.zero_le _) HG3.out (by simp)) (by decide) (by decide) (by decide))
      have P4 := Lib.hid (P3.out.but hb4.out hbg.out)
      have SB4 := Lib.hid (SB3.out.but hb4.out hbg.out)
      have K4 := Lib.hid (kp_new K3.out hb4.out hgw.out)
      have HNX : Hid (splice D (256 * F) Nw = splice L (256 * f + place) (p.take (d + N))) := Lib.hid (by
        rw [hNw, HS.out, splice_sec (n := n) D4.out.ll hFn.out (by have := HN.out; omega), HDD.out, show 256 * F + r = 256 * f + place + d by have := HFF.out; have := HPQ.out; have := HPP.out; omega, HXX.out]
        have e : (p.drop d).take (256 - r) = (p.drop d).take N := by
          rw [HN.out, HXX.out, List.length_take]
          rcases Nat.le_total (256 - r) (p.drop d).length with h | h
          · rw [Nat.min_eq_left h]
          · rw [Nat.min_eq_right h, List.take_of_length_le h, List.take_of_length_le (Nat.le_refl _)]
        rw [e]
        exact splice_step _ d N (by rw [HLL.out]; have := HFE.out; have := HLEN.out; omega) (by have := HLEN.out; have := HRR.out; omega))
      have HSAME : Hid (splice D (256 * F) S = D) := Lib.hid (by rw [HS.out]; exact splice_same D4.out.ll hFn.out)
      have HW : Hid (Calls Tryz.prog 55 #[.pointer (some ⟨pd, 0, none⟩), .int .i64 (F : Int), .slice (some ⟨g, 0, none⟩) 256 c3] w4 fun e w' => e = .returned (.int .i64 0) ∧ Dv w' B pd n (splice D (256 * F) Nw) (m + d + 1) (k + d + 1) ∧ Kp devT B w4 w') :=
        Lib.hid (dwrite D4.out F hFn.out g 0 c3 Nw HNwL.out GC4.out ⟨G4.out.lt, .inr ⟨_, G4.out⟩⟩ (by have := HO.out; omega) (by have := HM.out; omega) (Nat.le_trans HBg.out hb4.out.size))
      have HEQ := Lib.hid (equal_any (some ⟨g, 0, none⟩) 256 c3 Nw (some ⟨b2, 0, none⟩) 256 256 S w4 I4n.out I4s.out)
      obtain ⟨PN, hPN0⟩ : ∃ PN, PN = P + N := ⟨_, rfl⟩
      have hPN : (P : Int) + (N : Int) = (PN : Int) := by omega
      have hPNs : PN ≤ 4000000 := by omega
      have HPN := Lib.hid hPN0
      clear hPN0
      have hNRi : (N : Int) ≤ (R : Int) := by omega
      have hRc : R ≤ c' := P3.out.room.1
      have hNc : N ≤ c' := by omega
      have hNci : (R : Int) ≤ (c' : Int) := by omega
      have hc'm : c' ≤ 9223372036854775807 := by have := P3.out.room; unfold maxLen at this; omega
      have DD4 := D4
      obtain ⟨ee, hee⟩ : ∃ ee : Bool, ee = (Nw == S) := ⟨_, rfl⟩
      rw [← hee] at HEQ
      have HEE := Lib.hid hee
      clear hg4 hb4 hNw hee I4n I4s P3 SB3 D3 K3 G4 GC4 HG3 HTK HCL H3 hlenX hpos hfitX hone HMIN HBg
      cases ee
      · go_wp2_with (first | (go_at_call 54; refine HEQ.out.mono ?_; rintro e w5 ⟨rfl, rfl⟩) | (go_at_call 55; refine HW.out.mono ?_; rintro e w6 ⟨rfl, hd6, hk6⟩; have D6 := Lib.hid hd6; have K6 := Lib.hid (K4.out.trans hk6); have P6 := Lib.hid (P4.out.kp2 SB4.out hk6); have SB6 := Lib.hid (SB4.out.kp2 hk6); clear hd6 hk6))
        clear hc3 hc3m hcr hr1 hr2 hqi hri hroom hNr hqH hr256 hHs hfs hFs hFi hPs hfit
        go_quiet (fail)
        obtain ⟨wq, hwq⟩ : ∃ wq, wq = w6.drewN nq := ⟨_, rfl⟩
        have Bq : Below w6.heap.size w6 wq := by rw [hwq]; exact ⟨rfl, rfl, rfl, Nat.le_refl _, fun _ _ => rfl⟩
        rw [← hwq]
        clear hwq
        have D7 : Hid (Dv wq B pd n (splice L (256 * f + place) (p.take (d + N))) (m + (d + N)) (k + (d + N))) := Lib.hid (by
          have h := (D6.out.later Bq).more (m' := m + (d + N)) (k' := k + (d + N)) (by omega) (by omega)
          rw [HNX.out] at h; exact h)
        have P7 : Hid (IsB wq (if c' = N then some ⟨b', off', none⟩ else some ⟨b', off' + N, none⟩) (R - N) (c' - N) (p.drop (d + N))) := Lib.hid (by
          have h := isB_rest (P6.out.later Bq) hNR
          rw [List.drop_drop] at h; exact h)
        have S7 : Hid (∀ b off, (if c' = N then some (⟨b', off', none⟩ : Addr) else some ⟨b', off' + N, none⟩) = some ⟨b, off, none⟩ → 0 < len - (d + N) → Safe wq B b) := Lib.hid (fun b off e _ => by
          have eb : b = b' := by split at e <;> cases e <;> rfl
          rw [eb]
          exact ⟨Nat.lt_of_lt_of_le SB6.out.1 Bq.size, SB6.out.2.imp id fun ⟨Y, hY⟩ => ⟨Y, hY.below Bq hY.lt⟩⟩)
        have K7 := Lib.hid (K6.out.trans (Kp.of_below (ts := devT) (B := B) Bq))
        have hRN : R - N = len - (d + N) := by have := HRR.out; omega
        rw [hRN] at P7 ⊢
        clear Bq
        go_wp2_with fail
        go_roundw
        case rel => exact ⟨d + N, _, _, by have := HRR.out; omega, by have := HPP.out; have := HPN.out; (first | go_num | (congr 1; omega) | (congr 2; omega)), rfl, P7, S7, D7, K7⟩
        case measure => simp [lenOf]; have := HRR.out; omega
      · have D4' : Hid (Dv w4 B pd n (splice L (256 * f + place) (p.take (d + N))) (m + d) (k + d)) := Lib.hid (by
          rw [← HNX.out, eq_of_beq HEE.out.symm, HSAME.out]; exact DD4.out)
        go_wp2_with (go_at_call 54; refine HEQ.out.mono ?_; rintro e w5 ⟨rfl, rfl⟩)
        clear hc3 hc3m hcr hr1 hr2 hqi hri hroom hNr hqH hr256 hHs hfs hFs hFi hPs hfit
        go_quiet (fail)
        obtain ⟨wq, hwq⟩ : ∃ wq, wq = w5.drewN nq := ⟨_, rfl⟩
        have Bq : Below w5.heap.size w5 wq := by rw [hwq]; exact ⟨rfl, rfl, rfl, Nat.le_refl _, fun _ _ => rfl⟩
        rw [← hwq]
        clear hwq
        have D7 : Hid (Dv wq B pd n (splice L (256 * f + place) (p.take (d + N))) (m + (d + N)) (k + (d + N))) := Lib.hid (by
          have h := (D4'.out.later Bq).more (m' := m + (d + N)) (k' := k + (d + N)) (by omega) (by omega)
          exact h)
        have P7 : Hid (IsB wq (if c' = N then some ⟨b', off', none⟩ else some ⟨b', off' + N, none⟩) (R - N) (c' - N) (p.drop (d + N))) := Lib.hid (by
          have h := isB_rest (P4.out.later Bq) hNR
          rw [List.drop_drop] at h; exact h)
        have S7 : Hid (∀ b off, (if c' = N then some (⟨b', off', none⟩ : Addr) else some ⟨b', off' + N, none⟩) = some ⟨b, off, none⟩ → 0 < len - (d + N) → Safe wq B b) := Lib.hid (fun b off e _ => by
          have eb : b = b' := by split at e <;> cases e <;> rfl
          rw [eb]
          exact ⟨Nat.lt_of_lt_of_le SB4.out.1 Bq.size, SB4.out.2.imp id fun ⟨Y, hY⟩ => ⟨Y, hY.below Bq hY.lt⟩⟩)
        have K7 := Lib.hid (K4.out.trans (Kp.of_below (ts := devT) (B := B) Bq))
        have hRN : R - N = len - (d + N) := by have := HRR.out; omega
        rw [hRN] at P7 ⊢
        clear Bq
        go_wp2_with fail
        go_roundw
        case rel => exact ⟨d + N, _, _, by have := HRR.out; omega, by have := HPP.out; have := HPN.out; (first | go_num | (congr 1; omega) | (congr 2; omega)), rfl, P7, S7, D7, K7⟩
        case measure => simp [lenOf]; have := HRR.out; omega
    · have hR0 : ¬ (0 : Int) < ((len - d : Nat) : Int) := by omega
      obtain rfl : d = len := by omega
      rw [List.take_of_length_le (by rw [HLEN.out]; exact Nat.le_refl _)] at hD
      go_wp2_with fail
      go_ret
      exact ⟨rfl, hD.out, hK.out⟩

end Go.Proofs.YtgjckddcnmbceaaGreatDoor
