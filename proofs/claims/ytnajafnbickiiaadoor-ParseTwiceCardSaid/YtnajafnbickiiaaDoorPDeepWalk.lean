/-
  The walk of the law ParseDeep, and its eighty texts by computing. Conditions: the listed variables lie as the text lays them.
-/
import Derived.Test.YtnajafnbickiiaaDoorPAwake
import Derived.Test.YtnajafnbickiiaaDoorPCatch
namespace Go.Proofs.YtnajafnbickiiaaDoor
open Go.RowKit
set_option linter.unusedVariables false

def txtD (k : Nat) : List UInt8 := List.replicate k 40 ++ [97] ++ List.replicate k 41
def okD (k : Nat) : Bool := match lexTop (txtD k) with
  | .ok ts => goodB ts && match pg 1000 .expr 0 ts with
    | .ok x (t :: _) => t.kind == 0 && x.kind == 3 && x.text == [97] && x.at_ == k
    | _ => false
  | _ => false
def brB (ts : List Tk) : Bool := ((List.range 30).all fun i => match ts[i]? with
    | some u => u.kind == 4 && u.text == [40]
    | none => false) && match ts[30]? with
    | some t => t.at_ == 30
    | none => false
def badD (k : Nat) : Bool := match lexTop (txtD k) with
  | .ok ts => goodB ts && brB ts
  | _ => false
theorem okD_all : ((List.range 30).all okD) = true := by kernel_rfl
theorem badD_all : ((List.range 50).all fun i => badD (i + 30)) = true := by kernel_rfl
theorem deep_ok (k : Nat) (hk : k < 30) : ∃ ts x t q, lexTop (txtD k) = .ok ts ∧ goodB ts = true ∧ pg 1000 .expr 0 ts = .ok x (t :: q) ∧ t.kind = 0 ∧ x.kind = 3 ∧ x.text = [97] ∧ x.at_ = k := by
  have h := okD_all
  rw [List.all_eq_true] at h
  have h2 := h k (by simp; omega)
  unfold okD at h2
  split at h2
  · rename_i ts hl
    rw [Bool.and_eq_true] at h2
    obtain ⟨hg, h2⟩ := h2
    split at h2
    · rename_i x t q hp
      simp only [Bool.and_eq_true, beq_iff_eq] at h2
      exact ⟨ts, x, t, q, hl, hg, hp, h2.1.1.1, h2.1.1.2, h2.1.2, h2.2⟩
    · cases h2
  · cases h2
theorem deep_no (k : Nat) (h30 : 30 ≤ k) (hk : k < 80) : ∃ ts, lexTop (txtD k) = .ok ts ∧ goodB ts = true ∧ ∀ (W : World) (pb g cap : Nat), Ps W pb g 0 cap ts 0 21474836 →
    Calls Tryd.prog 14 #[.pointer (some ⟨pb, 0, none⟩)] W (PB pb g 0 21474836 30 5 W) := by
  have h := badD_all
  rw [List.all_eq_true] at h
  have h2 := h (k - 30) (by simp; omega)
  rw [show k - 30 + 30 = k by omega] at h2
  unfold badD at h2
  split at h2
  · rename_i ts hl
    rw [Bool.and_eq_true] at h2
    obtain ⟨hg, h2⟩ := h2
    unfold brB at h2
    rw [Bool.and_eq_true, List.all_eq_true] at h2
    obtain ⟨h3, h4⟩ := h2
    refine ⟨ts, hl, hg, fun W pb g cap hps => ?_⟩
    split at h4
    · rename_i t ht
      have h5 : t.at_ = 30 := by simpa using h4
      have := deep_bad 21474836 pb g 30 W 0 cap ts t 0 (by omega) (by omega) hps (fun i hi => by
        have h6 := h3 i (by simp; omega)
        split at h6
        · rename_i u hu
          simp only [Bool.and_eq_true, beq_iff_eq] at h6
          exact ⟨u, hu, h6.1, h6.2⟩
        · cases h6) ht
      rw [h5] at this
      exact this
    · cases h4
  · cases h2
theorem txtD_list (s t : ByteArray) (k : Nat) (hs : s.data.toList = List.replicate k 40) (ht : t.data.toList = List.replicate k 41) : ((s ++ ByteArray.mk #[97]) ++ t).data.toList = txtD k := by
  simp [txtD, hs, ht]

set_option maxRecDepth 100000 in
set_option maxHeartbeats 8000000 in
theorem walk_deep (w : World) (n : Nat) (hn : n < 256) (hl : LaidL w) (hlp : LaidP w) :
    Calls Tryd.prog 4 #[.int .u8 (n : Int)] w fun e w' => e = .returned (.bool true) ∧ Below w.heap.size w w' := by
  have HL := Lib.hid hl
  have HLP := Lib.hid hlp
  have HA := Lib.hid (awake_any w hl hlp)
  clear hl hlp
  have hpw : IntKind.i64.wrap (n : Int) = (n : Int) := by simp [IntKind.wrap, IntKind.bits, IntKind.signed]; omega
  obtain ⟨k, hk⟩ : ∃ k, k = n % 80 := ⟨_, rfl⟩
  have hpt : (n : Int) % 80 = (k : Int) := by rw [hk]; rfl
  have hk80 : k < 80 := by omega
  clear hk hn
  go_enter Tryd.func4, Tryd.ntmps4
  go_wp2_with fail
  refine HA.out.mono ?_
  rintro e w1 ⟨rfl, hb⟩
  have L1 := Lib.hid (HL.out.below hb HL.out.size)
  have LP1 := Lib.hid (HLP.out.below hb HLP.out.lt)
  have BB1 := Lib.hid hb
  clear hb HL HLP HA
  go_wp2_with fail
  go_loopg [4, 5, 6] k (fun gk v4 v5 v6 wr => wr = w1 ∧ ∃ (s t : ByteArray) (i : Nat), gk = k - i ∧ i ≤ k ∧ v6 = .int .i64 i ∧ v4 = .string s ∧ v5 = .string t ∧ Hid (s.data.toList = List.replicate i 40) ∧ Hid (t.data.toList = List.replicate i 41))
  case atStart => exact ⟨rfl, ⟨#[]⟩, ⟨#[]⟩, 0, rfl, Nat.zero_le _, rfl, rfl, rfl, Lib.hid rfl, Lib.hid rfl⟩
  case round =>
    obtain ⟨rfl, s, t, i, rfl, hik, rfl, rfl, rfl, hs, ht⟩ := hrel
    have hsz : s.size = i := by rw [← show s.data.toList.length = s.size by simp, hs.out]; simp
    have htz : t.size = i := by rw [← show t.data.toList.length = t.size by simp, ht.out]; simp
    have hxs : s.size + 1 ≤ 9223372036854775807 := by omega
    have hxt : t.size + 1 ≤ 9223372036854775807 := by omega
    have hxs2 : s.size ≤ 9223372036854775806 := by omega
    have hxt2 : t.size ≤ 9223372036854775806 := by omega
    have hxu : s.size + 1 + t.size ≤ 9223372036854775807 := by omega
    clear hsz htz
    by_cases hlt : i < k
    · have hii : (i : Int) < (k : Int) := by omega
      go_wp2_with fail
      go_roundg (k - (i + 1))
      case rel => exact ⟨rfl, _, _, i + 1, rfl, by omega, by go_num, rfl, rfl, Lib.hid (by rw [List.replicate_succ']; simp [hs.out]), Lib.hid (by rw [List.replicate_succ']; simp [ht.out])⟩
      case measure => omega
    · obtain rfl : i = k := by omega
      have hii : ¬ (i : Int) < (i : Int) := by omega
      have hm1 : IntKind.i64.wrap (2 * (i : Int)) = 2 * (i : Int) := by simp [IntKind.wrap, IntKind.bits, IntKind.signed]; omega
      have hm2 : IntKind.i64.wrap (2 * (i : Int) + 2) = 2 * (i : Int) + 2 := by simp [IntKind.wrap, IntKind.bits, IntKind.signed]; omega
      have HTX := Lib.hid (txtD_list s t i hs.out ht.out)
      clear hlt hik hs ht
      by_cases h30 : i < 30
      · obtain ⟨ts, x, tl, tq, hlex, hgood, hpg, htl, hx1, hx2, hx3⟩ := deep_ok i h30
        have hcmp : ¬ 60 < 2 * (i : Int) + 2 := by omega
        have HT := Lib.hid (parse_good ((s ++ ByteArray.mk #[97]) ++ t) L1.out LP1.out 1000 ts x tl tq (by rw [HTX.out]; exact hlex) hgood hpg htl)
        clear hlex hgood hpg htl h30
        go_wp2_with fail
        refine HT.out.mono ?_
        rintro e w2 ⟨cs, rfl, ix, hb⟩
        have BB2 : Hid (Below w.heap.size w w2) := Lib.hid (BB1.out.trans (hb.mono BB1.out.size))
        obtain ⟨E, hE⟩ : ∃ E, E = cs.toArray := ⟨_, rfl⟩
        rw [← hE]
        have HE := Lib.hid hE
        have HEI : Hid ((Tryd.prog.info? 28).map (·.size) = some E.size) := Lib.hid (by rw [hE, List.size_toArray, ix.len]; exact info_ex)
        have HEO : Hid (E.all (·.oneCell') = true) := Lib.hid (by rw [hE]; exact ix.one)
        have HES : Hid (exZ.toArray.size = E.size) := Lib.hid (by rw [hE, List.size_toArray, List.size_toArray, ix.len]; rfl)
        have NW : Hid (Has (w2.alloc (.cells #[.int .u8 0, .int .i64 0, .string ⟨#[]⟩, .slice none 0 0, .slice none 0 0, .bool false, .slice none 0 0, .int .i64 0] 28)) w2.heap.size exZ 28) := Lib.hid (Has.new w2 exZ _)
        have HH4 := Lib.hid ix.heads
        clear ix hb hE HT
        go_upto_region 12 with (refine wpList_store_row rfl 28 _ _ rfl w2.heap.size E rfl rfl 28 _ NW.out HEI.out HES.out HEO.out ?_)
        obtain ⟨X, hX⟩ : ∃ X, X = w2.heap.size := ⟨_, rfl⟩
        obtain ⟨w3, hw3⟩ : ∃ y, y = (w2.alloc (.cells #[.int .u8 0, .int .i64 0, .string ⟨#[]⟩, .slice none 0 0, .slice none 0 0, .bool false, .slice none 0 0, .int .i64 0] 28)).setRow w2.heap.size E := ⟨_, rfl⟩
        rw [← hw3, ← hX]
        have X3 : Has w3 X cs 28 := by rw [hw3, hX, HE.out]; exact NW.out.row _
        have BB3 : Hid (Below w.heap.size w w3) := Lib.hid (by rw [hw3]; exact below_setRow (BB2.out.alloc BB2.out.size _) BB2.out.size _)
        have a0 : w3.cell? ⟨X, 0, none⟩ = some (.int .u8 3) := by have := X3.cellAt (i := 0) HH4.out.1; rw [hx1] at this; exact this
        have a2 : w3.cell? ⟨X, 2, none⟩ = some (.string ⟨#[97]⟩) := by have := X3.cellAt (i := 2) HH4.out.2.2.1; rw [hx2] at this; exact this
        have a7 : w3.cell? ⟨X, 7, none⟩ = some (.int .i64 (i : Int)) := by have := X3.cellAt (i := 7) HH4.out.2.2.2; rw [hx3] at this; exact this
        clear hX hw3 NW X3 HH4 hx1 hx2 hx3 HE HEI HEO HES BB2
        go_wp2_with fail
        go_ret
        exact ⟨rfl, BB3.out⟩
      · obtain ⟨ts, hlex, hgood, hbad⟩ := deep_no i (by omega) hk80
        have hcmp : 60 < 2 * (i : Int) + 2 := by omega
        have hle : (30 : Int) ≤ (i : Int) := by omega
        have HT := Lib.hid (parse_deep ((s ++ ByteArray.mk #[97]) ++ t) L1.out LP1.out 30 5 ts (by rw [HTX.out]; exact hlex) hgood hbad)
        clear hlex hgood hbad h30
        go_wp2_with fail
        refine HT.out.mono ?_
        rintro e w2 ⟨rfl, hb⟩
        have BB2 : Hid (Below w.heap.size w w2) := Lib.hid (BB1.out.trans (hb.mono BB1.out.size))
        obtain ⟨E, hE⟩ : ∃ E, E = exZ.toArray := ⟨_, rfl⟩
        rw [← hE]
        have HEI : Hid ((Tryd.prog.info? 28).map (·.size) = some E.size) := Lib.hid (by rw [hE]; exact info_ex)
        have HEO : Hid (E.all (·.oneCell') = true) := Lib.hid (by rw [hE]; exact (IsX.leaf (w := w) (B := 0) 0 0 [] 0).one)
        have HES : Hid (exZ.toArray.size = E.size) := Lib.hid (by rw [hE])
        have NW : Hid (Has (w2.alloc (.cells #[.int .u8 0, .int .i64 0, .string ⟨#[]⟩, .slice none 0 0, .slice none 0 0, .bool false, .slice none 0 0, .int .i64 0] 28)) w2.heap.size exZ 28) := Lib.hid (Has.new w2 exZ _)
        clear hb hE HT
        go_upto_region 12 with (refine wpList_store_row rfl 28 _ _ rfl w2.heap.size E rfl rfl 28 _ NW.out HEI.out HES.out HEO.out ?_)
        obtain ⟨w3, hw3⟩ : ∃ y, y = (w2.alloc (.cells #[.int .u8 0, .int .i64 0, .string ⟨#[]⟩, .slice none 0 0, .slice none 0 0, .bool false, .slice none 0 0, .int .i64 0] 28)).setRow w2.heap.size E := ⟨_, rfl⟩
        rw [← hw3]
        have BB3 : Hid (Below w.heap.size w w3) := Lib.hid (by rw [hw3]; exact below_setRow (BB2.out.alloc BB2.out.size _) BB2.out.size _)
        clear hw3 NW HEI HEO HES BB2
        go_wp2_with fail
        go_ret
        exact ⟨rfl, BB3.out⟩
theorem u8_boundsD {n : Int} (h : (Lit.int .u8 n).wf = true) : 0 ≤ n ∧ n < 256 := by
  simp only [Lit.wf, Bool.and_eq_true, decide_eq_true_eq] at h
  have hmin : IntKind.u8.min = 0 := rfl
  have hmax : IntKind.u8.max = 255 := rfl
  omega
theorem walk_ParseDeep (w : World) (n0 : Int) (hn0 : (Lit.int .u8 n0).wf = true) (hl : LaidL w ∧ LaidP w) :
    Calls Tryd.prog 4 #[.int .u8 n0] w fun e w' => e = .returned (.bool true) ∧ Below w.heap.size w w' := by
  obtain ⟨n, rfl⟩ : ∃ n : Nat, n0 = (n : Int) := ⟨n0.toNat, by have := u8_boundsD hn0; omega⟩
  exact walk_deep w n (by have := u8_boundsD hn0; omega) hl.1 hl.2
end Go.Proofs.YtnajafnbickiiaaDoor
