/-
  The statement Rows.RecipeCopiesCardSaid: for every input the law RecipeCopies returns true, and each argument reads as it read; the first state and the primes are those of the program's text. Conditions: none of its own.
-/
import Derived.Deep.RegionWith
import Derived.BigFrame
import Derived.Test.YtlccdenafnekjaaGreatDoorCards
import Derived.Test.YtlccdenafnekjaaGreatDoorTie
import Derived.Test.YtlccdenafnekjaaGreatDoorMf
namespace Go.Proofs.YtlccdenafnekjaaGreatDoor
open Go.RowKit
set_option linter.unusedVariables false
set_option maxRecDepth 100000

theorem at_take (l : List UInt8) (t : T) (n : Nat) (hn : 400 < n) : atT (l.take n) t = atT l t := by
  by_cases h : l.length ≤ n
  · rw [List.take_of_length_le h]
  · have h1 : splitT l = ([], 2) := by unfold splitT; rw [if_pos (by omega)]
    have h2 : splitT (l.take n) = ([], 2) := by unfold splitT; rw [if_pos (by rw [List.length_take]; omega)]
    unfold atT
    rw [h1, h2]
theorem findT_height : ∀ (l : List ByteArray) (t x : T), findT l t = .inr x → heightT x ≤ heightT t
  | [], t, x, h => by rw [findT] at h; cases h; exact Nat.le_refl _
  | nm :: r, .mk k e d ns ks, x, h => by
    rw [findT] at h
    split at h
    · cases h
    · split at h
      · cases h
      · rename_i h1 h2
        have hj : (Lib.idxOfS ns nm).toNat < ks.length := by omega
        have h4 := findT_height r _ x h
        have h3 := height_get hj
        have h5 : heightT (.mk k e d ns ks) = heightL ks := by rw [heightT]
        rw [h5]
        omega
theorem sub_size {p : List UInt8} {t z : T} (h : atT p t = .inr z) (ht : (sizeT t).isSome = true) : (sizeT z).isSome = true := by
  obtain ⟨h1, h2, h3, h4⟩ := sizeT_get ht
  have hb := (sizeT_iff t _ _).1 h1
  have hs := atT_small h h3
  have hf : (fmA z ∧ bytesT z ≤ bytesT t) ∧ heightT z ≤ heightT t := by
    unfold atT at h
    split at h
    · exact ⟨findT_fm _ _ _ h h2, findT_height _ _ _ h⟩
    · cases h
  rw [(sizeT_iff z (sizeN z) (bytesT z)).2 ⟨hf.1.1, by omega, by omega, by omega, rfl, rfl⟩]
  rfl
def inB : ByteArray := ⟨#[105, 110]⟩
def copS (sub path : ByteArray) : StD := (4, [[105, 110], sub.data.toList, path.data.toList])
theorem copy_one (sw : SwF) (t : T) (sub path : ByteArray) (ht : (sizeT t).isSome = true) (hs : 64 ∉ sub.data.toList) (hp : 64 ∉ path.data.toList) (R : Int × Nat × T) (hR : R = rnF sw 131072 ⟨#[]⟩ [(inB, t)] [copS sub path] 0 emptyDir) :
    (R.1 ≠ 0 ∧ R.2.1 = 0 ∧ R.2.2 = zeroT) ∨ ∃ z, atT sub.data.toList t = .inr z ∧ R.1 = 0 ∧ R.2.1 = 1 ∧ atT path.data.toList R.2.2 = .inr z ∧ (sizeT R.2.2).isSome = true := by
  have e0 : repS 131072 ⟨#[]⟩ [105, 110] = inB := by unfold repS; rw [rep_take _ _ _ (by decide)]; rfl
  obtain ⟨p', hp'⟩ : ∃ p' : ByteArray, p' = repS 131072 ⟨#[]⟩ path.data.toList := ⟨_, rfl⟩
  have ep : p'.data.toList = path.data.toList.take 131073 := by rw [hp']; unfold repS; rw [rep_take _ _ _ hp]
  have es : (repS 131072 ⟨#[]⟩ sub.data.toList).data.toList = sub.data.toList.take 131073 := by unfold repS; rw [rep_take _ _ _ hs]
  have hst : stF sw 131072 ⟨#[]⟩ [(inB, t)] emptyDir (copS sub path) = tkF emptyDir inB (repS 131072 ⟨#[]⟩ sub.data.toList) p' [(inB, t)] := by
    show tkF emptyDir (repS 131072 ⟨#[]⟩ [105, 110]) _ (repS 131072 ⟨#[]⟩ path.data.toList) _ = _
    rw [e0, hp']
    rfl
  have htk : tkF emptyDir inB (repS 131072 ⟨#[]⟩ sub.data.toList) p' [(inB, t)] = (match atT sub.data.toList t with
      | .inl c => (c, emptyDir)
      | .inr z => (((runE emptyDir [putX p' z]).1 : Int), (runE emptyDir [putX p' z]).2.1)) := by
    unfold tkF
    rw [if_pos rfl, es, at_take _ _ _ (by decide)]
    cases atT sub.data.toList t <;> rfl
  rw [rnF, hst, htk] at hR
  cases hat : atT sub.data.toList t with
  | inl c =>
    rw [hat] at hR
    dsimp only at hR
    have hc := atT_code hat
    rw [if_neg (by omega)] at hR
    subst hR
    exact .inl ⟨by show c ≠ 0; omega, rfl, rfl⟩
  | inr z =>
    rw [hat] at hR
    dsimp only at hR
    by_cases h0 : (((runE emptyDir [putX p' z]).1 : Nat) : Int) = 0
    · rw [if_pos h0, rnF] at hR
      subst hR
      have h1 : (runE emptyDir [putX p' z]).1 = 0 := Int.ofNat.inj h0
      have h2 := h1
      rw [run_one empty_size] at h2
      have hb : belN p'.data.toList = 0 := app_bel (putX p' z) emptyDir _ _ h2
      have hl : path.data.toList.length ≤ 131073 := by
        unfold belN at hb
        by_cases h4 : 400 < p'.data.toList.length
        · rw [if_pos h4] at hb; cases hb
        · rw [ep, List.length_take] at h4; omega
      have hpe : p' = path := bytes_ext (by rw [ep, List.take_of_length_le hl])
      rw [hpe] at h1 ⊢
      exact .inr ⟨z, rfl, rfl, rfl, (undone path emptyDir z empty_size (sub_size hat ht) h1).1, (run_small h1).2⟩
    · rw [if_neg h0] at hR
      subst hR
      exact .inl ⟨h0, rfl, rfl⟩
/-- Run of one copy out of one input. -/
theorem run_copy (w : World) (hm : MaxW w) (hmx : 1 < w.heap.size) (hL : LaidR w) (t : T) (ht : (sizeT t).isSome = true) (sub path : ByteArray) (hs : 64 ∉ sub.data.toList ∧ sub.size ≤ 140737488355328) (hp : 64 ∉ path.data.toList ∧ path.size ≤ 140737488355328)
    (a : Option Addr) (hS : SpS w a 1 1 [copS sub path]) (mi : Nat) (ai : Option Addr) (hI : InS w mi ai 1 1 [(inB, t)]) (R : Int × Nat × T) (hR : R = rnF sw0 131072 ⟨#[]⟩ [(inB, t)] [copS sub path] 0 emptyDir) :
    Calls Tryz.prog 16 #[.slice a 1 1, .string ⟨#[]⟩, .slice ai 1 1] w (RnP R w) := by
  have hmo : mostF [(inB, t)] = 131072 := rfl
  have hg := sizeT_get ht
  have hrep : ∀ x : List UInt8, 64 ∉ x → (repS 131072 ⟨#[]⟩ x).size ≤ 900000000 := fun x hx => by
    unfold repS
    rw [rep_take _ _ _ hx]
    simp [ByteArray.size]
    omega
  have h := run_any sw0 w ⟨#[]⟩ a 1 1 [copS sub path] mi ai 1 1 [(inB, t)] hS (by decide) hI (by decide) (fun i hi W pb m cs t2 ka kn kc hbW hp2 ht2 hsz hc =>
    step_some sw0 W pb _ m cs t2 ⟨#[]⟩ ai 1 1 mi [(inB, t)] _ ka kn kc hp2 ht2 hsz hc (by
      obtain rfl : i = 0 := by omega
      intro y hy
      rw [hmo]
      have hy' : y = [105, 110] ∨ y = sub.data.toList ∨ y = path.data.toList := by simpa [copS] using hy
      rcases hy' with rfl | rfl | rfl
      · exact ⟨.inl (by decide), hrep _ (by decide)⟩
      · exact ⟨.inr ⟨hs.1, by simpa using hs.2⟩, hrep _ hs.1⟩
      · exact ⟨.inr ⟨hp.1, by simpa using hp.2⟩, hrep _ hp.1⟩) (hI.later hbW) (by decide) (fun i hi => by
      obtain rfl : i = 0 := by omega
      exact ⟨hg.2.2.1, by show sizeN t ≤ 1000000; have := hg.2.2.2; omega⟩) (by rw [hmo]; decide) (by decide) (hL.later hbW) (hm.below hbW hmx) (Nat.lt_of_lt_of_le hmx hbW.size) (fun _ h7 => by
      obtain rfl : i = 0 := by omega
      exact absurd h7 (by show ¬ (4 : Nat) = 7; decide)))
  rw [hmo, ← hR] at h
  exact h
theorem inS_one {w : World} {g m : Nat} {k0 k1 k2 k3 k4 : Value} {t : T} (h : Has w g [.string inB, k0, k1, k2, k3, k4] 51) (ht : IsT w m [k0, k1, k2, k3, k4] t) : InS w m (some ⟨g, 0, none⟩) 1 1 [(inB, t)] :=
  ⟨rfl, .inr ⟨g, 0, rfl, h.lt, fun i hi => ⟨[.string inB, k0, k1, k2, k3, k4], by
    obtain rfl : i = 0 := by omega
    exact ⟨[k0, k1, k2, k3, k4], rfl, ht⟩, fun j v hj => by
    obtain rfl : i = 0 := by omega
    rw [Nat.zero_mul, Nat.zero_add]
    have := h.cellAt hj
    simpa using this⟩⟩, Nat.le_refl _⟩
theorem three_steps {w : World} {b1 b2 : Nat} {x y z : ByteArray} (h1 : Has w b1 [.string x, .string y, .string z] 9) (h2 : Has w b2 [.int .u8 4, .slice (some ⟨b1, 0, none⟩) 3 3] 49) : SpS w (some ⟨b2, 0, none⟩) 1 1 [(4, [x.data.toList, y.data.toList, z.data.toList])] := by
  refine ⟨rfl, .inr ⟨b2, 0, rfl, h2.lt, fun i hi => ⟨[.int .u8 4, .slice (some ⟨b1, 0, none⟩) 3 3], ?_, fun j v hj => ?_⟩⟩, Nat.le_refl _⟩
  · obtain rfl : i = 0 := by omega
    refine ⟨_, 3, 3, rfl, (show 4 < 256 by decide), rfl, .inr ⟨b1, 0, rfl, h1.lt, rfl, Nat.le_refl _, by decide, fun i hi => ?_⟩⟩
    match i, hi with
    | 0, _ => exact h1.cellAt (i := 0) (by simp [strV])
    | 1, _ => exact h1.cellAt (i := 1) (by simp [strV])
    | 2, _ => exact h1.cellAt (i := 2) (by simp [strV])
  · obtain rfl : i = 0 := by omega
    rw [Nat.zero_mul, Nat.zero_add]
    exact h2.cellAt hj
end Go.Proofs.YtlccdenafnekjaaGreatDoor
namespace Go.Proofs.YtlccdenafnekjaaGreatDoor
open Go.RowKit
set_option linter.unusedVariables false

def rsizeV (t : T) : Value := match sizeT t with
  | none => .tuple #[.int .i64 0, .int .i64 0, .bool false]
  | some q => .tuple #[.int .i64 (q.1 : Int), .int .i64 (q.2 : Int), .bool true]

set_option maxRecDepth 100000 in
set_option maxHeartbeats 8000000 in
theorem rsize_any (n : Nat) (cs : List Value) (t : T) (w : World) (ht : IsT w n cs t) (hs : Small t) :
    Calls Tryz.prog 30 #[.agg cs.toArray] w fun e w' => e = .returned (rsizeV t) ∧ Below w.heap.size w w' := by
  have hI := Lib.hid (infoL (isT_five ht))
  have HT := Lib.hid ht
  have HSM := Lib.hid hs
  clear ht hs
  go_enter Tryz.func30, Tryz.ntmps30
  go_upto_region 1 with fail
  obtain ⟨w1, hw1⟩ : ∃ w1, w1 = w.alloc (.cells cs.toArray 37) := ⟨_, rfl⟩
  have g1 : Has w1 w.heap.size cs 37 := by rw [hw1]; exact Has.new w cs _
  have b1 : Below w.heap.size w w1 := by rw [hw1]; exact (Below.refl _ _).alloc (Nat.le_refl _) _
  rw [← hw1]
  have HK := Lib.hid (count_any n cs t w1 (IsT.later b1 _ _ _ HT.out) HSM.out 0 0 0 4096 65536 (by omega) (by omega) (by omega) (by omega) (by omega))
  have G1 := Lib.hid (show w1.heap[w.heap.size]? = some (.cells cs.toArray 37 (0, 0)) from g1)
  have B1 := Lib.hid b1
  clear hw1 g1 b1
  go_wp2_with (refine wpList_load_row rfl 37 _ rfl w.heap.size rfl 37 cs.toArray (0, 0) _ G1.out Tryz.underlying37 rfl hI.out ?_)
  refine HK.out.mono ?_
  rintro e w2 ⟨rfl, b2⟩
  have B2 := Lib.hid (B1.out.trans (b2.mono B1.out.size))
  have hk : sizeT t = takeT t 0 0 0 := rfl
  clear HK b2
  cases hs : takeT t 0 0 0 with
  | none =>
    have HV : Hid (rsizeV t = .tuple #[.int .i64 0, .int .i64 0, .bool false]) := Lib.hid (by unfold rsizeV; rw [hk, hs])
    rw [cntV_none rfl]
    clear hs hk
    go_wp2_with fail
    go_ret3
    exact ⟨by rw [HV.out]; rfl, B2.out⟩
  | some q =>
    have HV : Hid (rsizeV t = .tuple #[.int .i64 (q.1 : Int), .int .i64 (q.2 : Int), .bool true]) := Lib.hid (by unfold rsizeV; rw [hk, hs])
    have hle := takeT_le _ _ _ _ _ hs
    obtain ⟨m, hm⟩ : ∃ m : Nat, m = q.1 := ⟨_, rfl⟩
    obtain ⟨b, hb⟩ : ∃ b : Nat, b = q.2 := ⟨_, rfl⟩
    have hcv : cntV (some q) = .tuple #[.int .i64 (4096 - (m : Int)), .int .i64 (65536 - (b : Int))] := by rw [hm, hb]; rfl
    rw [hcv]
    rw [← hm, ← hb] at HV hle
    have n0 : ¬ (4096 - (m : Int) < 0) := by omega
    have n1 : ¬ (4096 < (m : Int)) := by omega
    clear hs hk hcv hm hb
    go_wp2_with fail
    go_ret3
    exact ⟨by rw [HV.out]; simp; try omega, B2.out⟩

end Go.Proofs.YtlccdenafnekjaaGreatDoor
namespace Go.Proofs.YtlccdenafnekjaaGreatDoor
open Go.RowKit
set_option linter.unusedVariables false

set_option maxRecDepth 100000 in
set_option maxHeartbeats 8000000 in
theorem rform_any (n : Nat) (cs : List Value) (t : T) (w : World) (ht : IsT w n cs t) (hs : Small t) :
    Calls Tryz.prog 20 #[.agg cs.toArray] w fun e w' => e = .returned (.bool (sizeT t).isSome) ∧ Below w.heap.size w w' := by
  have hI := Lib.hid (infoL (isT_five ht))
  have HT := Lib.hid ht
  have HSM := Lib.hid hs
  clear ht hs
  go_enter Tryz.func20, Tryz.ntmps20
  go_upto_region 1 with fail
  obtain ⟨w1, hw1⟩ : ∃ w1, w1 = w.alloc (.cells cs.toArray 37) := ⟨_, rfl⟩
  have g1 : Has w1 w.heap.size cs 37 := by rw [hw1]; exact Has.new w cs _
  have b1 : Below w.heap.size w w1 := by rw [hw1]; exact (Below.refl _ _).alloc (Nat.le_refl _) _
  rw [← hw1]
  have HK := Lib.hid (rsize_any n cs t w1 (IsT.later b1 _ _ _ HT.out) HSM.out)
  have G1 := Lib.hid (show w1.heap[w.heap.size]? = some (.cells cs.toArray 37 (0, 0)) from g1)
  have B1 := Lib.hid b1
  clear hw1 g1 b1
  go_wp2_with (refine wpList_load_row rfl 37 _ rfl w.heap.size rfl 37 cs.toArray (0, 0) _ G1.out Tryz.underlying37 rfl hI.out ?_)
  refine HK.out.mono ?_
  rintro e w2 ⟨rfl, b2⟩
  have B2 := Lib.hid (B1.out.trans (b2.mono B1.out.size))
  clear HK b2
  cases hs : sizeT t with
  | none =>
    have HV : rsizeV t = .tuple #[.int .i64 0, .int .i64 0, .bool false] := by unfold rsizeV; rw [hs]
    rw [HV]
    have HSZ := Lib.hid hs
    clear HV hs
    go_wp2_with fail
    go_ret
    exact ⟨by rw [HSZ.out]; rfl, B2.out⟩
  | some q =>
    have HV : rsizeV t = .tuple #[.int .i64 (q.1 : Int), .int .i64 (q.2 : Int), .bool true] := by unfold rsizeV; rw [hs]
    rw [HV]
    have HSZ := Lib.hid hs
    clear HV hs
    go_wp2_with fail
    go_ret
    exact ⟨by rw [HSZ.out]; rfl, B2.out⟩

end Go.Proofs.YtlccdenafnekjaaGreatDoor
namespace Go.Proofs.YtlccdenafnekjaaGreatDoor
open Go.RowKit
set_option linter.unusedVariables false

set_option maxRecDepth 100000 in
set_option maxHeartbeats 20000000 in
theorem left_any : ∀ (n : Nat) (cs : List Value) (t : T) (w : World), IsT w n cs t → ∀ (m : Int), 0 ≤ m → m ≤ 1000000 →
    Calls Tryz.prog 34 #[.agg cs.toArray, .int .i64 m] w fun e w' => (∃ r : Int, e = .returned (.int .i64 r) ∧ -1 ≤ r ∧ r ≤ 1000000) ∧ Below w.heap.size w w'
  | 0, _, _, _, ht => absurd ht (by simp [IsT])
  | n + 1, cs, .mk k x d ns ks, w, ht => by
    intro m hm0 hm1
    obtain ⟨ad, nd, cd, an, nn, cn, ak, nk, ck, rfl, hB, hS, hK⟩ := ht
    have HK := Lib.hid hK
    clear hB hS hK
    go_enter Tryz.func34, Tryz.ntmps34
    go_upto_region 1 with fail
    obtain ⟨w1, hw1⟩ : ∃ w1, w1 = w.alloc (.cells #[.int .u8 (k.toNat : Int), .bool x, .slice ad nd cd, .slice an nn cn, .slice ak nk ck] 37) := ⟨_, rfl⟩
    have g1 : Has w1 w.heap.size [.int .u8 (k.toNat : Int), .bool x, .slice ad nd cd, .slice an nn cn, .slice ak nk ck] 37 := by rw [hw1]; exact Has.new w _ _
    have b1 : Below w.heap.size w w1 := by rw [hw1]; exact (Below.refl _ _).alloc (Nat.le_refl _) _
    have s1 : w1.heap.size = w.heap.size + 1 := by rw [hw1]; simp
    rw [← hw1]
    obtain ⟨g, hg⟩ : ∃ g, g = w.heap.size := ⟨_, rfl⟩
    rw [← hg] at g1 s1 b1 ⊢
    have HG := Lib.hid hg
    clear hg hw1
    have G1 := Lib.hid g1
    have B1 := Lib.hid b1
    clear g1 b1
    go_wp2_with fail
    have info5 : Hid ((Tryz.prog.info? 37).map (·.size) = some 5) := Lib.hid (by kernel_rfl)
    go_loopw [1, 5] (fun vn vi wr => ∃ (i : Nat) (r : Int), i ≤ nk ∧ vi = .int .i64 i ∧ vn = .int .i64 r ∧ -1 ≤ r ∧ r ≤ 1000000 ∧ Has wr g [.int .u8 (k.toNat : Int), .bool x, .slice ad nd cd, .slice an nn cn, .slice ak nk ck] 37 ∧ Below g w wr ∧ g + 1 ≤ wr.heap.size) (fun vn vi _ => nk - (intOf vi).toNat)
    case atStart => exact ⟨0, m - 1, Nat.zero_le _, rfl, rfl, by omega, by omega, G1.out, B1.out, by omega⟩
    case round =>
      clear G1 B1
      obtain ⟨i, r, hi, rfl, rfl, hr0, hr1, hg, hbel, hsz⟩ := hrel
      have cg4 := hg.cellAt (i := 4) rfl
      have HG' := Lib.hid hg
      have HBE := Lib.hid hbel
      clear hg
      by_cases hlt : i < nk
      · by_cases hr : 0 ≤ r
        · rcases HK.out.at_ with h0 | ⟨b, off, rfl, hb, hc⟩
          · omega
          obtain ⟨c0, c1, c2, c3, c4, hR, e0, e1, e2, e3, e4⟩ := hc i hlt
          have hbg : b < g := by rw [HG.out]; exact hb
          have hrange : wr.rangeAt b (off + i * 5) [c0, c1, c2, c3, c4] := fun j v hv => by
            rw [Nat.add_assoc]
            match j, hv with
            | 0, hv => cases hv; exact (hbel.cell (p := ⟨b, off + (i * 5 + 0), none⟩) hbg).trans e0
            | 1, hv => cases hv; exact (hbel.cell (p := ⟨b, off + (i * 5 + 1), none⟩) hbg).trans e1
            | 2, hv => cases hv; exact (hbel.cell (p := ⟨b, off + (i * 5 + 2), none⟩) hbg).trans e2
            | 3, hv => cases hv; exact (hbel.cell (p := ⟨b, off + (i * 5 + 3), none⟩) hbg).trans e3
            | 4, hv => cases hv; exact (hbel.cell (p := ⟨b, off + (i * 5 + 4), none⟩) hbg).trans e4
            | j + 5, hv => simp at hv
          have HRANGE := Lib.hid hrange
          have hki : (i : Int) < (nk : Int) := by omega
          have hroom := HK.out.room
          unfold maxLen at hroom
          have hni : (i : Int) + 1 ≤ 9223372036854775807 := by omega
          obtain ⟨L, hL⟩ : ∃ L, L = [c0, c1, c2, c3, c4] := ⟨_, rfl⟩
          rw [← hL] at HRANGE hR
          have hll : Hid (L.length = 5) := Lib.hid (by rw [hL]; rfl)
          have K5 := Lib.hid (left_any n L (ks.getD i default) wr (IsT.later (by rw [← HG.out]; exact hbel) _ _ _ hR) r hr hr1)
          have HLT := Lib.hid hlt
          clear hbel hc hR e0 e1 e2 e3 e4 hrange hL
          go_wp2_with (refine wpList_load_mid rfl 37 _ rfl b (off + i * 5) rfl L _ HRANGE.out Tryz.underlying37 rfl (by rw [info5.out, hll.out]) ?_)
          refine K5.out.mono ?_
          rintro e w6 ⟨⟨r6, rfl, hr6, hr7⟩, b6⟩
          have B6 := Lib.hid b6
          clear b6 K5
          go_wp2_with fail
          go_roundw
          case rel => exact ⟨i + 1, r6, by omega, by go_num, rfl, hr6, hr7, HG'.out.below B6.out (by omega), HBE.out.trans (B6.out.mono (by omega)), by have := B6.out.size; omega⟩
          case measure =>
            have := HLT.out
            simp only [intOf]; omega
        · go_wp2_with fail
          go_ret
          exact ⟨⟨r, rfl, hr0, hr1⟩, by rw [← HG.out]; exact HBE.out⟩
      · go_wp2_with fail
        go_ret
        exact ⟨⟨r, rfl, hr0, hr1⟩, by rw [← HG.out]; exact HBE.out⟩

set_option maxRecDepth 100000 in
set_option maxHeartbeats 8000000 in
theorem great_any (n : Nat) (cs : List Value) (t : T) (w : World) (ht : IsT w n cs t) (m : Int) (hm0 : 0 ≤ m) (hm1 : m ≤ 1000000) :
    Calls Tryz.prog 19 #[.agg cs.toArray, .int .i64 m] w fun e w' => (∃ g, e = .returned (.bool g)) ∧ Below w.heap.size w w' := by
  have hI := Lib.hid (infoL (isT_five ht))
  have HT := Lib.hid ht
  clear ht
  go_enter Tryz.func19, Tryz.ntmps19
  go_upto_region 1 with fail
  obtain ⟨w1, hw1⟩ : ∃ w1, w1 = w.alloc (.cells cs.toArray 37) := ⟨_, rfl⟩
  have g1 : Has w1 w.heap.size cs 37 := by rw [hw1]; exact Has.new w cs _
  have b1 : Below w.heap.size w w1 := by rw [hw1]; exact (Below.refl _ _).alloc (Nat.le_refl _) _
  rw [← hw1]
  have HK := Lib.hid (left_any n cs t w1 (IsT.later b1 _ _ _ HT.out) m hm0 hm1)
  have G1 := Lib.hid (show w1.heap[w.heap.size]? = some (.cells cs.toArray 37 (0, 0)) from g1)
  have B1 := Lib.hid b1
  clear hw1 g1 b1
  go_wp2_with (refine wpList_load_row rfl 37 _ rfl w.heap.size rfl 37 cs.toArray (0, 0) _ G1.out Tryz.underlying37 rfl hI.out ?_)
  refine HK.out.mono ?_
  rintro e w2 ⟨⟨r, rfl, hr0, hr1⟩, b2⟩
  have B2 := Lib.hid (B1.out.trans (b2.mono B1.out.size))
  clear HK b2
  go_wp2_with fail
  go_ret
  exact ⟨⟨_, rfl⟩, B2.out⟩

end Go.Proofs.YtlccdenafnekjaaGreatDoor
namespace Go.Proofs.YtlccdenafnekjaaGreatDoor
open Go.RowKit
set_option linter.unusedVariables false

theorem nth_app (a b : List UInt8) (k : Nat) (h : k < b.length) : (a ++ b).getD (a.length + k) 0 = b.getD k 0 := by
  rw [List.getD_eq_getElem?_getD, List.getElem?_append_right (by omega), List.getD_eq_getElem?_getD]
  congr 2
  omega
theorem no_step (l : List UInt8) (k : Nat) (h : k < l.length) (h1 : 64 ∉ l.take k) (h2 : l.getD k 0 ≠ 64) : 64 ∉ l.take (k + 1) := by
  rw [List.take_succ_eq_append_getElem h, List.mem_append, not_or]
  refine ⟨h1, ?_⟩
  rw [List.mem_singleton]
  intro e
  apply h2
  rw [List.getD_eq_getElem?_getD, List.getElem?_eq_getElem h, e]; rfl
set_option maxRecDepth 100000 in
set_option maxHeartbeats 20000000 in
theorem walk_RecipeCopies (w : World) (n : Nat) (cs : List Value) (t : T) (ht : IsT w n cs t) (hs : Small t) (path : ByteArray) (hzp : path.size ≤ 140737488355328) (sub : ByteArray) (hzs : sub.size ≤ 140737488355328) (hm : MaxW w) (hL : LaidR w) (hmx : 1 < w.heap.size) :
    Calls Tryz.prog 6 #[.agg cs.toArray, .string path, .string sub] w fun e w' => e = .returned (.bool true) ∧ Below w.heap.size w w' := by
  obtain ⟨k0, k1, k2, k3, k4, rfl⟩ := five_list (isT_five ht)
  obtain ⟨K, hK⟩ : ∃ K, K = [k0, k1, k2, k3, k4] := ⟨_, rfl⟩
  rw [← hK] at ht ⊢
  have HKE := Lib.hid hK
  obtain ⟨w1, hw1⟩ : ∃ w1, w1 = w.alloc (.cells K.toArray 37) := ⟨_, rfl⟩
  have b1 : Below w.heap.size w w1 := by rw [hw1]; exact (Below.refl _ _).alloc (Nat.le_refl _) _
  have Vt : Hid (w1.heap[w.heap.size]? = some (.cells K.toArray 37 (0, 0))) := Lib.hid (by rw [hw1]; exact Has.new w K _)
  have It := Lib.hid (infoL (isT_five ht))
  have Tt := Lib.hid (IsT.later b1 _ _ _ ht)
  have HAW := Lib.hid (fun (W : World) (hW : Below w.heap.size w W) => awake_any W (hm.below hW hmx) (hL.later hW) (Nat.lt_of_lt_of_le hmx hW.size))
  have HS := Lib.hid hs
  have HM := Lib.hid hm
  have HMX := Lib.hid hmx
  have HLR := Lib.hid hL
  have HW1 : Hid (w1 = w.alloc (.cells K.toArray 37)) := Lib.hid hw1
  have BW := Lib.hid b1
  have HZ := Lib.hid (And.intro hzs hzp)
  clear ht hs hm hmx hL hw1 b1 hK
  go_enter Tryz.func6, Tryz.ntmps6
  go_upto_region 1 with fail
  rw [← HW1.out]
  go_wp2_with (refine wpList_load_row rfl 37 _ rfl (w.heap.size) rfl 37 K.toArray (0, 0) _ Vt.out Tryz.underlying37 rfl It.out ?_)
  refine (great_any _ _ _ _ Tt.out 300 (by omega) (by omega)).mono ?_
  rintro e w2 ⟨⟨g, rfl⟩, hb⟩
  have BN := Lib.hid hb
  have BW := Lib.hid (BW.out.trans (BN.out.mono BW.out.size))
  have Vt : Hid (w2.heap[w.heap.size]? = some (.cells K.toArray 37 (0, 0))) := Lib.hid ((BN.out.block _ (Array.getElem?_eq_some_iff.1 Vt.out).1).trans Vt.out)
  have Tt := Lib.hid (IsT.later BN.out _ _ _ Tt.out)
  clear hb
  rcases Bool.eq_false_or_eq_true g with rfl | rfl
  · go_wp2_with fail
    refine (HAW.out w2 BW.out).mono ?_
    rintro e wz ⟨rfl, hb⟩
    have BZ := Lib.hid (BW.out.trans (hb.mono BW.out.size))
    clear hb
    go_wp2_with fail
    go_ret
    exact ⟨rfl, BZ.out⟩
  go_wp2_with fail
  refine (HAW.out w2 BW.out).mono ?_
  rintro e w3 ⟨rfl, hb⟩
  have BN := Lib.hid hb
  have BW := Lib.hid (BW.out.trans (BN.out.mono BW.out.size))
  have Vt : Hid (w3.heap[w.heap.size]? = some (.cells K.toArray 37 (0, 0))) := Lib.hid ((BN.out.block _ (Array.getElem?_eq_some_iff.1 Vt.out).1).trans Vt.out)
  have Tt := Lib.hid (IsT.later BN.out _ _ _ Tt.out)
  clear hb
  go_wp2_with (refine ld_rowG (by rfl) 37 _ rfl (w.heap.size) rfl 37 K.toArray (0, 0) _ Vt.out Tryz.underlying37 rfl It.out ?_)
  obtain ⟨f1, hf1⟩ : ∃ f1, f1 = (sizeT t).isSome := ⟨_, rfl⟩
  have HR := Lib.hid (rform_any _ _ _ _ Tt.out HS.out)
  rw [← hf1] at HR
  have HF1 := Lib.hid hf1
  clear hf1
  refine (HR.out).mono ?_
  rintro e w4 ⟨rfl, hb⟩
  have BN := Lib.hid hb
  have BW := Lib.hid (BW.out.trans (BN.out.mono BW.out.size))
  have Vt : Hid (w4.heap[w.heap.size]? = some (.cells K.toArray 37 (0, 0))) := Lib.hid ((BN.out.block _ (Array.getElem?_eq_some_iff.1 Vt.out).1).trans Vt.out)
  have Tt := Lib.hid (IsT.later BN.out _ _ _ Tt.out)
  clear hb HR
  rcases Bool.eq_false_or_eq_true f1 with rfl | rfl
  rotate_left
  · go_wp2_with fail
    refine (HAW.out w4 BW.out).mono ?_
    rintro e wz ⟨rfl, hb⟩
    have BZ := Lib.hid (BW.out.trans (hb.mono BW.out.size))
    clear hb
    go_wp2_with fail
    go_ret
    exact ⟨rfl, BZ.out⟩
  have HGD : Hid (Good t) := Lib.hid (Good.of (sizeT_get HF1.out.symm).1)
  obtain ⟨r0, hr0⟩ : ∃ r0, r0 = atT sub.data.toList t := ⟨_, rfl⟩
  have HRA := Lib.hid (rat_any _ K _ sub w4 Tt.out HGD.out)
  rw [← hr0] at HRA
  have HR0 := Lib.hid hr0
  clear hr0
  go_wp2_with (refine wpList_load_row rfl 37 _ rfl (w.heap.size) rfl 37 K.toArray (0, 0) _ Vt.out Tryz.underlying37 rfl It.out ?_)
  refine HRA.out.mono ?_
  rintro e w5 ⟨nx, ok, rfl, hTx, hb⟩
  obtain ⟨f0, hf0⟩ : ∃ f0, f0 = codeR r0 := ⟨_, rfl⟩
  rw [← hf0]
  have HF0 := Lib.hid hf0
  have hTx' := IsT.later hb _ _ _ hTx
  have Tk : Hid (IsT w5 nx ok (resT r0)) := Lib.hid hTx'
  have BN := Lib.hid hb
  have BW := Lib.hid (BW.out.trans (BN.out.mono BW.out.size))
  have Vt : Hid (w5.heap[w.heap.size]? = some (.cells K.toArray 37 (0, 0))) := Lib.hid ((BN.out.block _ (Array.getElem?_eq_some_iff.1 Vt.out).1).trans Vt.out)
  have Tt := Lib.hid (IsT.later BN.out _ _ _ Tt.out)
  clear hb hTx hTx' HRA hf0
  have OI := Lib.hid (infoL (isT_five Tk.out))
  have OO : Hid (ok.toArray.all (·.oneCell') = true) := Lib.hid (isT_one Tk.out)
  have OS : Hid ((#[.int .u8 0, .bool false, .slice none 0 0, .slice none 0 0, .slice none 0 0] : Array Value).size = ok.toArray.size) := Lib.hid (by have := isT_five Tk.out; simp [this])
  obtain ⟨w5s1, hw⟩ : ∃ X, X = (w5.alloc (.cells #[.int .u8 0, .bool false, .slice none 0 0, .slice none 0 0, .slice none 0 0] 37)).setRow w5.heap.size ok.toArray := ⟨_, rfl⟩
  have hb : Below w5.heap.size w5 w5s1 := by rw [hw]; exact below_setRow ((Below.refl _ _).alloc (Nat.le_refl _) _) (Nat.le_refl _) _
  have hv : w5s1.heap[w5.heap.size]? = some (.cells ok.toArray 37 (0, 0)) := by rw [hw]; exact setRow_heap _ _ _ _ _ _ (heap_alloc_new w5 _)
  have HW := Lib.hid hw
  have BN := Lib.hid hb
  have BW := Lib.hid (BW.out.trans (BN.out.mono BW.out.size))
  have Vt : Hid (w5s1.heap[w.heap.size]? = some (.cells K.toArray 37 (0, 0))) := Lib.hid ((BN.out.block _ (Array.getElem?_eq_some_iff.1 Vt.out).1).trans Vt.out)
  have Tt := Lib.hid (IsT.later BN.out _ _ _ Tt.out)
  have Tk := Lib.hid (IsT.later BN.out _ _ _ Tk.out)
  have Vok := Lib.hid hv
  have Iok := OI
  clear hb hv hw
  go_upto_region 4 with (refine wpList_store_row rfl 37 _ _ rfl w5.heap.size ok.toArray rfl rfl 37 _ (heap_alloc_new w5 _) OI.out OS.out OO.out ?_)
  rw [← HW.out]
  clear HW OO OS
  obtain ⟨A, hA⟩ : ∃ A, A = w5s1.heap.size := ⟨_, rfl⟩
  obtain ⟨y1, hy1⟩ : ∃ y1, y1 = w5s1.alloc (.cells #[.string ⟨#[105, 110]⟩, .string sub, .string path] 9) := ⟨_, rfl⟩
  obtain ⟨y2, hy2⟩ : ∃ y2, y2 = y1.alloc (.cells #[.int .u8 4, .slice (some ⟨A, 0, none⟩) 3 3] 49) := ⟨_, rfl⟩
  have q1 : Below w5s1.heap.size w5s1 y1 := by rw [hy1]; exact (Below.refl _ _).alloc (Nat.le_refl _) _
  have z1 : Has y1 A [.string ⟨#[105, 110]⟩, .string sub, .string path] 9 := by rw [hy1, hA]; exact Has.new _ [.string ⟨#[105, 110]⟩, .string sub, .string path] _
  have e1 : y1.heap.size = A + 1 := by rw [hy1, hA]; simp
  have q2 : Below y1.heap.size y1 y2 := by rw [hy2]; exact (Below.refl _ _).alloc (Nat.le_refl _) _
  have z2 : Has y2 (A + 1) [.int .u8 4, .slice (some ⟨A, 0, none⟩) 3 3] 49 := by rw [hy2, ← e1]; exact Has.new y1 [.int .u8 4, .slice (some ⟨A, 0, none⟩) 3 3] _
  have hb : Below w5s1.heap.size w5s1 y2 := q1.trans (q2.mono q1.size)
  have HST : Hid (SpS y2 (some ⟨A + 1, 0, none⟩) 1 1 [copS sub path]) := Lib.hid (three_steps (z1.below q2 z1.lt) z2)
  have HY1 := Lib.hid hy1
  have HY2 := Lib.hid hy2
  have HA := Lib.hid hA
  have HE1 := Lib.hid e1
  clear hy1 hy2 q1 q2 z1 z2 e1 hA
  have BN := Lib.hid hb
  have BW := Lib.hid (BW.out.trans (BN.out.mono BW.out.size))
  have Vt : Hid (y2.heap[w.heap.size]? = some (.cells K.toArray 37 (0, 0))) := Lib.hid ((BN.out.block _ (Array.getElem?_eq_some_iff.1 Vt.out).1).trans Vt.out)
  have Vok : Hid (y2.heap[w5.heap.size]? = some (.cells ok.toArray 37 (0, 0))) := Lib.hid ((BN.out.block _ (Array.getElem?_eq_some_iff.1 Vok.out).1).trans Vok.out)
  have Tt := Lib.hid (IsT.later BN.out _ _ _ Tt.out)
  have Tk := Lib.hid (IsT.later BN.out _ _ _ Tk.out)
  clear hb
  go_upto_region 5 with fail
  rw [← HY1.out, ← HA.out, ← HY2.out]
  try rw [HE1.out]
  clear HY1 HY2
  obtain ⟨tx, htx⟩ : ∃ tx, tx = sub.data.toList ++ path.data.toList := ⟨_, rfl⟩
  have HTX := Lib.hid htx
  have HTL : Hid (tx.length = sub.size + path.size) := Lib.hid (by rw [htx, List.length_append]; simp)
  have HSL : Hid (sub.data.toList.length = sub.size) := Lib.hid (by simp)
  have HPL : Hid (path.data.toList.length = path.size) := Lib.hid (by simp)
  have hzs1 : (sub.size : Int) ≤ 140737488355328 := by omega
  have hzp1 : (path.size : Int) ≤ 140737488355328 := by omega
  clear htx
  go_wp2_with fail
  go_loopw [10] (fun v10 wr => ∃ i : Nat, i ≤ sub.size + path.size ∧ v10 = .int .i64 (i : Int) ∧ wr = y2 ∧ Hid (64 ∉ tx.take i)) (fun v10 _ => sub.size + path.size - (intOf v10).toNat)
  case atStart => exact ⟨0, Nat.zero_le _, rfl, rfl, Lib.hid (by simp)⟩
  case round =>
    obtain ⟨i, hi, rfl, rfl, HN⟩ := hrel
    have hib : (i : Int) ≤ 281474976710656 := by omega
    by_cases hlt : i < sub.size + path.size
    · have hii : (i : Int) < (sub.size : Int) + (path.size : Int) := by omega
      have HLT := Lib.hid hlt
      by_cases hin : i < sub.size
      · have hij : (i : Int) < (sub.size : Int) := by omega
        have hig : ¬ (sub.size : Int) ≤ (i : Int) := by omega
        have hget := str_get sub i hin
        obtain ⟨c, hc⟩ : ∃ c, c = sub.data.toList.getD i 0 := ⟨_, rfl⟩
        rw [← hc] at hget
        have HC : Hid (tx.getD i 0 = c) := Lib.hid (by rw [HTX.out, hc, List.getD_eq_getElem?_getD, List.getElem?_append_left (by rw [HSL.out]; exact hin), ← List.getD_eq_getElem?_getD])
        clear hc
        by_cases h64 : c = 64
        · have hc64 : (c.toNat : Int) = 64 := by rw [h64]; rfl
          go_wp2_with fail
          refine bodyPost_ret (results_tmp rfl _ _ _) rfl ?_
          exact ⟨rfl, BW.out⟩
        · have hc64 : ¬ (c.toNat : Int) = 64 := fun e => h64 (UInt8.toNat_inj.1 (by show c.toNat = 64; omega))
          have hc64e : ((c.toNat : Int) == 64) = false := beq_eq_false_iff_ne.2 hc64
          have HN2 : Hid (64 ∉ tx.take (i + 1)) := Lib.hid (no_step tx i (by rw [HTL.out]; exact HLT.out) HN.out (by rw [HC.out]; exact h64))
          go_wp2_with fail
          go_roundw
          case rel => exact ⟨i + 1, HLT.out, by first | go_num | rfl, by first | rfl | trivial, HN2⟩
          case measure => have := HLT.out; simp [intOf]; omega
      · have hij : ¬ (i : Int) < (sub.size : Int) := by omega
        have hig : (sub.size : Int) ≤ (i : Int) := by omega
        obtain ⟨j, rfl⟩ : ∃ j, i = sub.size + j := ⟨i - sub.size, by omega⟩
        have hjp : j < path.size := by omega
        have hjj : ((sub.size + j : Nat) : Int) - (sub.size : Int) = (j : Int) := by omega
        have hjj2 : (sub.size : Int) + (j : Int) - (sub.size : Int) = (j : Int) := by omega
        have hjl : (j : Int) < (path.size : Int) := by omega
        have hget := str_get path j hjp
        obtain ⟨c, hc⟩ : ∃ c, c = path.data.toList.getD j 0 := ⟨_, rfl⟩
        rw [← hc] at hget
        have HC : Hid (tx.getD (sub.size + j) 0 = c) := Lib.hid (by rw [HTX.out, hc, ← HSL.out]; exact nth_app _ _ j (by rw [HPL.out]; exact hjp))
        clear hc
        by_cases h64 : c = 64
        · have hc64 : (c.toNat : Int) = 64 := by rw [h64]; rfl
          go_wp2_with fail
          refine bodyPost_ret (results_tmp rfl _ _ _) rfl ?_
          exact ⟨rfl, BW.out⟩
        · have hc64 : ¬ (c.toNat : Int) = 64 := fun e => h64 (UInt8.toNat_inj.1 (by show c.toNat = 64; omega))
          have hc64e : ((c.toNat : Int) == 64) = false := beq_eq_false_iff_ne.2 hc64
          have HN2 : Hid (64 ∉ tx.take (sub.size + j + 1)) := Lib.hid (no_step tx (sub.size + j) (by rw [HTL.out]; exact HLT.out) HN.out (by rw [HC.out]; exact h64))
          go_wp2_with fail
          go_roundw
          case rel => exact ⟨sub.size + j + 1, HLT.out, by first | go_num | rfl, by first | rfl | trivial, HN2⟩
          case measure => have := HLT.out; simp [intOf]; omega
    · have hii : ¬ (i : Int) < (sub.size : Int) + (path.size : Int) := by omega
      have HNO : Hid (64 ∉ sub.data.toList ∧ 64 ∉ path.data.toList) := Lib.hid (by
        have h := HN.out
        rw [List.take_of_length_le (by rw [HTL.out]; omega), HTX.out, List.mem_append, not_or] at h
        exact h)
      obtain ⟨y2, rfl⟩ : ∃ y2, y2 = wr := ⟨_, rfl⟩
      have VtL : Hid (y2.heap[w.heap.size]? = some (.cells [k0, k1, k2, k3, k4].toArray 37 (0, 0))) := Lib.hid (by rw [← HKE.out]; exact Vt.out)
      have ItL : Hid ((Tryz.prog.info? 37).map (·.size) = some [k0, k1, k2, k3, k4].toArray.size) := Lib.hid (by kernel_rfl)
      have PtL := VtL
      obtain ⟨B, hB⟩ : ∃ B, B = y2.heap.size := ⟨_, rfl⟩
      obtain ⟨y3, hy3⟩ : ∃ y3, y3 = y2.alloc (.cells #[.string ⟨#[105, 110]⟩, k0, k1, k2, k3, k4] 51) := ⟨_, rfl⟩
      have hb : Below y2.heap.size y2 y3 := by rw [hy3]; exact (Below.refl _ _).alloc (Nat.le_refl _) _
      have z3 : Has y3 B [.string inB, k0, k1, k2, k3, k4] 51 := by rw [hy3, hB]; exact Has.new y2 [.string inB, k0, k1, k2, k3, k4] _
      have HST3 := Lib.hid (HST.out.later hb)
      have HY3 := Lib.hid hy3
      have HB3 := Lib.hid hB
      have Z3 := Lib.hid z3
      have BN := Lib.hid hb
      have BW := Lib.hid (BW.out.trans (BN.out.mono BW.out.size))
      have Vt : Hid (y3.heap[w.heap.size]? = some (.cells K.toArray 37 (0, 0))) := Lib.hid ((BN.out.block _ (Array.getElem?_eq_some_iff.1 Vt.out).1).trans Vt.out)
      have Vok : Hid (y3.heap[w5.heap.size]? = some (.cells ok.toArray 37 (0, 0))) := Lib.hid ((BN.out.block _ (Array.getElem?_eq_some_iff.1 Vok.out).1).trans Vok.out)
      have VtL : Hid (y3.heap[w.heap.size]? = some (.cells [k0, k1, k2, k3, k4].toArray 37 (0, 0))) := Lib.hid ((BN.out.block _ (Array.getElem?_eq_some_iff.1 VtL.out).1).trans VtL.out)
      have Tt := Lib.hid (IsT.later BN.out _ _ _ Tt.out)
      have Tk := Lib.hid (IsT.later BN.out _ _ _ Tk.out)
      clear hb hy3 hB z3
      obtain ⟨rr, hrr⟩ : ∃ rr, rr = rnF sw0 131072 ⟨#[]⟩ [(inB, t)] [copS sub path] 0 emptyDir := ⟨_, rfl⟩
      have HRUN := Lib.hid (run_copy y3 (HM.out.below BW.out HMX.out) (Nat.lt_of_lt_of_le HMX.out BW.out.size) (HLR.out.later BW.out) t HF1.out.symm sub path ⟨HNO.out.1, HZ.out.1⟩ ⟨HNO.out.2, HZ.out.2⟩ _ HST3.out n _ (inS_one Z3.out (by rw [← HKE.out]; exact Tt.out)) rr hrr)
      have HC1 := Lib.hid (copy_one sw0 t sub path HF1.out.symm HNO.out.1 HNO.out.2 rr hrr)
      clear hrr
      go_wp2_with (refine wpList_load_row rfl 37 _ rfl (w.heap.size) rfl 37 [k0, k1, k2, k3, k4].toArray (0, 0) _ PtL.out Tryz.underlying37 rfl ItL.out ?_)
      rw [← HY3.out, ← HB3.out]
      refine HRUN.out.mono ?_
      rintro e z1 ⟨ou, SU, rfl, hmt, hb⟩
      obtain ⟨rc, rn, rt⟩ := rr
      dsimp only at hmt HC1 ⊢
      have hsu : Small rt := by
        rcases HC1.out with ⟨_, _, h⟩ | ⟨z, _, _, _, _, h⟩
        · rw [h]; exact small_zero
        · exact (sizeT_get h).2.2.1
      have hTu := hmt.isT _ (Nat.le_refl _) hsu
      have Tu : Hid (IsT z1 (sizeN rt) ou rt) := Lib.hid hTu
      have BN := Lib.hid hb
      have BW := Lib.hid (BW.out.trans (BN.out.mono BW.out.size))
      have Vt : Hid (z1.heap[w.heap.size]? = some (.cells K.toArray 37 (0, 0))) := Lib.hid ((BN.out.block _ (Array.getElem?_eq_some_iff.1 Vt.out).1).trans Vt.out)
      have Vok : Hid (z1.heap[w5.heap.size]? = some (.cells ok.toArray 37 (0, 0))) := Lib.hid ((BN.out.block _ (Array.getElem?_eq_some_iff.1 Vok.out).1).trans Vok.out)
      have VtL : Hid (z1.heap[w.heap.size]? = some (.cells [k0, k1, k2, k3, k4].toArray 37 (0, 0))) := Lib.hid ((BN.out.block _ (Array.getElem?_eq_some_iff.1 VtL.out).1).trans VtL.out)
      have Tt := Lib.hid (IsT.later BN.out _ _ _ Tt.out)
      have Tk := Lib.hid (IsT.later BN.out _ _ _ Tk.out)
      clear hb hmt hsu hTu HRUN
      have OI := Lib.hid (infoL (isT_five Tu.out))
      have OO : Hid (ou.toArray.all (·.oneCell') = true) := Lib.hid (isT_one Tu.out)
      have OS : Hid ((#[.int .u8 0, .bool false, .slice none 0 0, .slice none 0 0, .slice none 0 0] : Array Value).size = ou.toArray.size) := Lib.hid (by have := isT_five Tu.out; simp [this])
      obtain ⟨z1s2, hw⟩ : ∃ X, X = (z1.alloc (.cells #[.int .u8 0, .bool false, .slice none 0 0, .slice none 0 0, .slice none 0 0] 37)).setRow z1.heap.size ou.toArray := ⟨_, rfl⟩
      have hb : Below z1.heap.size z1 z1s2 := by rw [hw]; exact below_setRow ((Below.refl _ _).alloc (Nat.le_refl _) _) (Nat.le_refl _) _
      have hv : z1s2.heap[z1.heap.size]? = some (.cells ou.toArray 37 (0, 0)) := by rw [hw]; exact setRow_heap _ _ _ _ _ _ (heap_alloc_new z1 _)
      have HW := Lib.hid hw
      have BN := Lib.hid hb
      have BW := Lib.hid (BW.out.trans (BN.out.mono BW.out.size))
      have Vt : Hid (z1s2.heap[w.heap.size]? = some (.cells K.toArray 37 (0, 0))) := Lib.hid ((BN.out.block _ (Array.getElem?_eq_some_iff.1 Vt.out).1).trans Vt.out)
      have Vok : Hid (z1s2.heap[w5.heap.size]? = some (.cells ok.toArray 37 (0, 0))) := Lib.hid ((BN.out.block _ (Array.getElem?_eq_some_iff.1 Vok.out).1).trans Vok.out)
      have VtL : Hid (z1s2.heap[w.heap.size]? = some (.cells [k0, k1, k2, k3, k4].toArray 37 (0, 0))) := Lib.hid ((BN.out.block _ (Array.getElem?_eq_some_iff.1 VtL.out).1).trans VtL.out)
      have Tt := Lib.hid (IsT.later BN.out _ _ _ Tt.out)
      have Tk := Lib.hid (IsT.later BN.out _ _ _ Tk.out)
      have Tu := Lib.hid (IsT.later BN.out _ _ _ Tu.out)
      have Vou := Lib.hid hv
      have Iou := OI
      clear hb hv hw
      go_upto_region 11 with (refine wpList_store_row rfl 37 _ _ rfl z1.heap.size ou.toArray rfl rfl 37 _ (heap_alloc_new z1 _) OI.out OS.out OO.out ?_)
      rw [← HW.out]
      clear HW OO OS
      rcases HC1.out with ⟨h1, h2, h3⟩ | ⟨z, h1, h2, h3, h4, h5⟩
      · have hne : (rc != 0) = true := by rw [bne_iff_ne]; exact h1
        have h2' : rn = 0 := h2
        subst h2'
        have HZR := Lib.hid h3
        clear h2 h3
        have Tz := Lib.hid (isT_zero z1s2)
        have HSM := Lib.hid (rsame_any _ _ _ _ _ _ z1s2 Tu.out Tz.out)
        go_wp2_with (refine ld_rowG (by rfl) 37 _ rfl (z1.heap.size) rfl 37 ou.toArray (0, 0) _ Vou.out Tryz.underlying37 rfl Iou.out ?_)
        refine HSM.out.mono ?_
        rintro e c1 ⟨⟨r, rfl, hr⟩, hb⟩
        have hrt : r = true := hr.2 (HZR.out)
        subst hrt
        have BN := Lib.hid hb
        have BW := Lib.hid (BW.out.trans (BN.out.mono BW.out.size))
        have Vt : Hid (c1.heap[w.heap.size]? = some (.cells K.toArray 37 (0, 0))) := Lib.hid ((BN.out.block _ (Array.getElem?_eq_some_iff.1 Vt.out).1).trans Vt.out)
        have Vok : Hid (c1.heap[w5.heap.size]? = some (.cells ok.toArray 37 (0, 0))) := Lib.hid ((BN.out.block _ (Array.getElem?_eq_some_iff.1 Vok.out).1).trans Vok.out)
        have VtL : Hid (c1.heap[w.heap.size]? = some (.cells [k0, k1, k2, k3, k4].toArray 37 (0, 0))) := Lib.hid ((BN.out.block _ (Array.getElem?_eq_some_iff.1 VtL.out).1).trans VtL.out)
        have Vou : Hid (c1.heap[z1.heap.size]? = some (.cells ou.toArray 37 (0, 0))) := Lib.hid ((BN.out.block _ (Array.getElem?_eq_some_iff.1 Vou.out).1).trans Vou.out)
        have Tt := Lib.hid (IsT.later BN.out _ _ _ Tt.out)
        have Tk := Lib.hid (IsT.later BN.out _ _ _ Tk.out)
        have Tu := Lib.hid (IsT.later BN.out _ _ _ Tu.out)
        have Tz := Lib.hid (IsT.later BN.out _ _ _ Tz.out)
        clear hr hb HSM
        go_wp2_with fail
        go_ret
        exact ⟨rfl, BW.out⟩
      · have h2' : rc = 0 := h2
        have h3' : rn = 1 := h3
        subst h2' h3'
        have HRZ : Hid (r0 = .inr z) := Lib.hid (by rw [HR0.out]; exact h1)
        have HAT := Lib.hid h4
        have HGU : Hid (Good rt) := Lib.hid (Good.of (sizeT_get h5).1)
        have hf00 : f0 = 0 := by rw [HF0.out, HRZ.out]; rfl
        subst hf00
        clear h1 h2 h3 h4 h5
        have HRA := Lib.hid (rat_any _ ou _ path z1s2 Tu.out HGU.out)
        rw [show atT path.data.toList rt = .inr z from HAT.out] at HRA
        go_wp2_with (refine wpList_load_row rfl 37 _ rfl (z1.heap.size) rfl 37 ou.toArray (0, 0) _ Vou.out Tryz.underlying37 rfl Iou.out ?_)
        refine HRA.out.mono ?_
        rintro e b1 ⟨ny, ox, rfl, hTx, hb⟩
        have hTx' := IsT.later hb _ _ _ hTx
        have Tx : Hid (IsT b1 ny ox z) := Lib.hid hTx'
        have BN := Lib.hid hb
        have BW := Lib.hid (BW.out.trans (BN.out.mono BW.out.size))
        have Vt : Hid (b1.heap[w.heap.size]? = some (.cells K.toArray 37 (0, 0))) := Lib.hid ((BN.out.block _ (Array.getElem?_eq_some_iff.1 Vt.out).1).trans Vt.out)
        have Vok : Hid (b1.heap[w5.heap.size]? = some (.cells ok.toArray 37 (0, 0))) := Lib.hid ((BN.out.block _ (Array.getElem?_eq_some_iff.1 Vok.out).1).trans Vok.out)
        have VtL : Hid (b1.heap[w.heap.size]? = some (.cells [k0, k1, k2, k3, k4].toArray 37 (0, 0))) := Lib.hid ((BN.out.block _ (Array.getElem?_eq_some_iff.1 VtL.out).1).trans VtL.out)
        have Vou : Hid (b1.heap[z1.heap.size]? = some (.cells ou.toArray 37 (0, 0))) := Lib.hid ((BN.out.block _ (Array.getElem?_eq_some_iff.1 Vou.out).1).trans Vou.out)
        have Tt := Lib.hid (IsT.later BN.out _ _ _ Tt.out)
        have Tk := Lib.hid (IsT.later BN.out _ _ _ Tk.out)
        have Tu := Lib.hid (IsT.later BN.out _ _ _ Tu.out)
        clear hb hTx hTx' HRA
        have OI := Lib.hid (infoL (isT_five Tx.out))
        have OO : Hid (ox.toArray.all (·.oneCell') = true) := Lib.hid (isT_one Tx.out)
        have OS : Hid ((#[.int .u8 0, .bool false, .slice none 0 0, .slice none 0 0, .slice none 0 0] : Array Value).size = ox.toArray.size) := Lib.hid (by have := isT_five Tx.out; simp [this])
        obtain ⟨b1s3, hw⟩ : ∃ X, X = (b1.alloc (.cells #[.int .u8 0, .bool false, .slice none 0 0, .slice none 0 0, .slice none 0 0] 37)).setRow b1.heap.size ox.toArray := ⟨_, rfl⟩
        have hb : Below b1.heap.size b1 b1s3 := by rw [hw]; exact below_setRow ((Below.refl _ _).alloc (Nat.le_refl _) _) (Nat.le_refl _) _
        have hv : b1s3.heap[b1.heap.size]? = some (.cells ox.toArray 37 (0, 0)) := by rw [hw]; exact setRow_heap _ _ _ _ _ _ (heap_alloc_new b1 _)
        have HW := Lib.hid hw
        have BN := Lib.hid hb
        have BW := Lib.hid (BW.out.trans (BN.out.mono BW.out.size))
        have Vt : Hid (b1s3.heap[w.heap.size]? = some (.cells K.toArray 37 (0, 0))) := Lib.hid ((BN.out.block _ (Array.getElem?_eq_some_iff.1 Vt.out).1).trans Vt.out)
        have Vok : Hid (b1s3.heap[w5.heap.size]? = some (.cells ok.toArray 37 (0, 0))) := Lib.hid ((BN.out.block _ (Array.getElem?_eq_some_iff.1 Vok.out).1).trans Vok.out)
        have VtL : Hid (b1s3.heap[w.heap.size]? = some (.cells [k0, k1, k2, k3, k4].toArray 37 (0, 0))) := Lib.hid ((BN.out.block _ (Array.getElem?_eq_some_iff.1 VtL.out).1).trans VtL.out)
        have Vou : Hid (b1s3.heap[z1.heap.size]? = some (.cells ou.toArray 37 (0, 0))) := Lib.hid ((BN.out.block _ (Array.getElem?_eq_some_iff.1 Vou.out).1).trans Vou.out)
        have Tt := Lib.hid (IsT.later BN.out _ _ _ Tt.out)
        have Tk := Lib.hid (IsT.later BN.out _ _ _ Tk.out)
        have Tu := Lib.hid (IsT.later BN.out _ _ _ Tu.out)
        have Tx := Lib.hid (IsT.later BN.out _ _ _ Tx.out)
        have Vox := Lib.hid hv
        have Iox := OI
        clear hb hv hw
        go_upto_region 14 with (refine wpList_store_row rfl 37 _ _ rfl b1.heap.size ox.toArray rfl rfl 37 _ (heap_alloc_new b1 _) OI.out OS.out OO.out ?_)
        rw [← HW.out]
        clear HW OO OS
        have HSM := Lib.hid (rsame_any _ _ _ _ _ _ b1s3 Tx.out Tk.out)
        go_wp2_with (first
          | (refine ld_rowG (by rfl) 37 _ rfl (b1.heap.size) rfl 37 ox.toArray (0, 0) _ Vox.out Tryz.underlying37 rfl Iox.out ?_)
          | (refine ld_rowG (by rfl) 37 _ rfl (w5.heap.size) rfl 37 ok.toArray (0, 0) _ Vok.out Tryz.underlying37 rfl Iok.out ?_))
        refine HSM.out.mono ?_
        rintro e c1 ⟨⟨r, rfl, hr⟩, hb⟩
        have hrt : r = true := hr.2 (by rw [HRZ.out]; rfl)
        subst hrt
        have BN := Lib.hid hb
        have BW := Lib.hid (BW.out.trans (BN.out.mono BW.out.size))
        have Vt : Hid (c1.heap[w.heap.size]? = some (.cells K.toArray 37 (0, 0))) := Lib.hid ((BN.out.block _ (Array.getElem?_eq_some_iff.1 Vt.out).1).trans Vt.out)
        have Vok : Hid (c1.heap[w5.heap.size]? = some (.cells ok.toArray 37 (0, 0))) := Lib.hid ((BN.out.block _ (Array.getElem?_eq_some_iff.1 Vok.out).1).trans Vok.out)
        have VtL : Hid (c1.heap[w.heap.size]? = some (.cells [k0, k1, k2, k3, k4].toArray 37 (0, 0))) := Lib.hid ((BN.out.block _ (Array.getElem?_eq_some_iff.1 VtL.out).1).trans VtL.out)
        have Vou : Hid (c1.heap[z1.heap.size]? = some (.cells ou.toArray 37 (0, 0))) := Lib.hid ((BN.out.block _ (Array.getElem?_eq_some_iff.1 Vou.out).1).trans Vou.out)
        have Vox : Hid (c1.heap[b1.heap.size]? = some (.cells ox.toArray 37 (0, 0))) := Lib.hid ((BN.out.block _ (Array.getElem?_eq_some_iff.1 Vox.out).1).trans Vox.out)
        have Tt := Lib.hid (IsT.later BN.out _ _ _ Tt.out)
        have Tk := Lib.hid (IsT.later BN.out _ _ _ Tk.out)
        have Tu := Lib.hid (IsT.later BN.out _ _ _ Tu.out)
        have Tx := Lib.hid (IsT.later BN.out _ _ _ Tx.out)
        clear hr hb HSM
        go_wp2_with fail
        go_ret
        exact ⟨rfl, BW.out⟩

end Go.Proofs.YtlccdenafnekjaaGreatDoor

namespace Go.Proofs.YtlccdenafnekjaaGreatDoor.recipeCopies
open Go.ChangeShapes Go.WideShapes Go.ChangeAt Go.RowKit
open Go.ChangeMaps (open_string shut_string)
set_option linter.unusedVariables false

theorem own : ownKnob Tryz.prog.godebug = none := by kernel_rfl
theorem laidOut : laidOutB Tryz.prog = true := by kernel_rfl

set_option maxRecDepth 100000 in
theorem lifted (os : Os) (started : os.Started) (H : Type) (enc : TypeId × Value → H) :
    ReturnsInHanded {} Tryz.checked os 6 .any (fun w args => (Rows.recipeCopiesSpec.pre enc Tryz.prog Tryz.f6 Rows.recipeCopiesRow.domain false w args ∧ laidMetH Tryz.prog Rows.recipeCopiesRow.laid w) ∧ sizedMet enc Tryz.prog Tryz.f6 (OpenSpec.ofChange Rows.recipeCopiesSpec) false w args)
      (Rows.recipeCopiesSpec.post enc Tryz.prog Tryz.f6 false true false false) := by
  refine handed_shaped_and (C := Tryz.checked) (X := fun w _ => laidMetH Tryz.prog Rows.recipeCopiesRow.laid w) (fun _ _ _ hh h => h.of_heap hh) own started (by kernel_rfl) Tryz.func6
    (ChangeSpec.witness_shaped (enc := enc) (C := Tryz.checked) (os := os) (X := fun w _ => laidMetH Tryz.prog Rows.recipeCopiesRow.laid w) false (World.laidAll Tryz.prog os Rows.recipeCopiesRow.laid) #[.agg #[.int .u8 0, .bool false, .slice none 0 0, .slice none 0 0, .slice none 0 0], .string ByteArray.empty, .string ByteArray.empty] 8 (World.laidAll_os _ _ _)
      (World.shaped_of_ZipB (by kernel_rfl) (by kernel_rfl)) (by kernel_rfl) (by kernel_rfl) (by kernel_rfl)
      (by rw [MakeChecks.laidMetH_plain _ _ _ (by kernel_rfl)]; exact laidMet_laidAll _ (by kernel_rfl) (by kernel_rfl))) ?_
  intro W base args ds gs before hval0 hW _ hsz0 hL hsh _
  have hLR : LaidR W := laid_metR hL
  have hl : MaxW W := Tryz.laysM146.s1_3 W hsh
  have hmx : 1 < W.heap.size := by
    obtain ⟨m, hm⟩ := hl
    exact World.block_lt_of_cell? W _ hm
  have hsz : (DataW.weightsEach Tryz.prog (Tryz.f6.params.toList ++ Rows.recipeCopiesSpec.plain.varTypes Tryz.prog) (ds ++ gs)).all (· ≤ reachBytes) = true := hsz0
  have hval : ∀ (j : Nat) t v, Tryz.f6.params[j]? = some t → args[j]? = some v → Value.okWide Tryz.prog W .any base t v := hval0
  have hW' := hW
  obtain ⟨p, q, hA0, hV, rfl, hfz, hnd⟩ := hW
  have hA : DataW.TrodAll enc Tryz.prog W 0 (fun _ => true) true Tryz.f6.params.toList args.toList ds p := hA0
  rw [Tryz.params6] at hA hval hsz
  obtain ⟨v0, vs0, d0, ds0, p0, q0, hargs, rfl, rfl, h0, r0⟩ := trodAll_cons hA
  obtain ⟨v1, vs1, d1, ds1, p1, q1, rfl, rfl, rfl, h1, r1⟩ := trodAll_cons r0
  obtain ⟨v2, vs2, d2, ds2, p2, q2, rfl, rfl, rfl, h2, r2⟩ := trodAll_cons r1
  obtain ⟨rfl, rfl, rfl⟩ := trodAll_nil r2
  obtain rfl : args = #[v0, v1, v2] := by cases args; simp_all
  obtain ⟨rfl, rfl⟩ := trodVars_none hV
  have k0 := h0
  have lt0 : ∀ x ∈ p0, x.block < W.heap.size := by obtain ⟨m, hm⟩ := k0; exact DataW.trod_lt m _ _ _ hm
  obtain ⟨n0, cs0, t0, rfl, hT0, hsm0⟩ := open_tree (hval 0 37 v0 rfl rfl) h0 (fun m hm => of_decide_eq_true (List.all_eq_true.1 hsz m (DataW.weights_mem_each (j := 0) rfl rfl m hm)))
  have str1 : ∀ bytes : List UInt8, d1 = .lit (.string bytes) → bytes.length ≤ 140737488355328 := fun bytes hb => by have hs := sized_string hsz (j := 1) (t := 9) (bytes := bytes) rfl (by rw [hb]; rfl); unfold reachBytes at hs; omega
  obtain ⟨a1, rfl, rfl, rfl, w1⟩ := open_string Tryz.underlying9 (hval 1 9 v1 rfl rfl) h1
  have str2 : ∀ bytes : List UInt8, d2 = .lit (.string bytes) → bytes.length ≤ 140737488355328 := fun bytes hb => by have hs := sized_string hsz (j := 2) (t := 9) (bytes := bytes) rfl (by rw [hb]; rfl); unfold reachBytes at hs; omega
  obtain ⟨a2, rfl, rfl, rfl, w2⟩ := open_string Tryz.underlying9 (hval 2 9 v2 rfl rfl) h2
  clear hA0 hval0
  refine (walk_RecipeCopies W n0 cs0 t0 hT0 hsm0 a1 (by have := str1 _ rfl; simpa using this) a2 (by have := str2 _ rfl; simpa using this) hl hLR hmx).mono fun e W' ⟨he, bel⟩ => ?_
  subst he
  exact ⟨_, rfl, _, _, _, [], _, [], hW', trodAll_mk1 (shut_bool Tryz.underlying4 _), (trodAll_cons_mk (Below.trod laidOut (by kernel_rfl) (of_decide_eq_true (by kernel_rfl)) k0 bel lt0) (trodAll_cons_mk (shut_string Tryz.underlying9 w1) (trodAll_cons_mk (shut_string Tryz.underlying9 w2) trodAll_mk0))), rfl, bel.frame _, fun h => by cases h⟩

theorem over : Rows.recipeCopiesRow.holds Tryz.pinned (OpenSpec.ofChange Rows.recipeCopiesSpec) :=
  OpenClaim.holds_of_wide 6 Tryz.f6 rfl rfl rfl rfl rfl rfl rfl ⟨rfl, rfl, rfl, rfl, rfl⟩ rfl rfl rfl rfl rfl (by kernel_rfl) Tryz.func6 (by kernel_rfl)
    (of_decide_eq_true (by kernel_rfl)) (by unfold Func.isWrapper; first | (rw [if_pos (by decide +kernel)]; kernel_rfl) | (rw [if_neg (by decide +kernel)]; exact ⟨rfl, rfl⟩))
    (fun os started H enc _ => lifted os started H enc)

/-- The statement. -/
theorem proved : Rows.RecipeCopiesCardSaid :=
  Claim7.holds_tied_plain_at .later [] [.data, .data, .pinned] true Rows.recipeCopiesCard.stood.harness false
    over (fun _ h => by cases h) (by kernel_rfl) (fun _ h => by cases h) recipeCopies_row_tie rfl ⟨rfl, rfl⟩ (by kernel_rfl) rfl
    (fun f fn hf hfn => by
      obtain rfl : f = 6 := Option.some.inj ((show Tryz.prog.funcNamed "staddle/staddlelaw12.RecipeCopies" = some 6 by kernel_rfl).symm.trans hf) |>.symm
      obtain rfl : fn = Tryz.f6 := (Option.some.inj (Tryz.func6.symm.trans hfn)).symm
      exact ⟨by kernel_rfl, fun j t ht => by
        rw [Tryz.params6] at ht
        have hm : t ∈ [37, 9, 9] := by simpa using Array.mem_of_getElem? ht
        have hall : ([37, 9, 9].all fun u => !Tryz.prog.wantsStandIn u) = true := by kernel_rfl
        exact (show Tryz.prog.wantsStandIn t = false by simpa using List.all_eq_true.1 hall t hm)⟩)
    (by kernel_rfl)
end Go.Proofs.YtlccdenafnekjaaGreatDoor.recipeCopies
