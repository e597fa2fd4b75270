/-
  The contract of the reference's Tokens at a letter a, a blank and digits. Conditions: at most 100 digits, at least one.
-/
import Derived.Test.YtjoiddlknocdfaaDoorLRSmall
namespace Go.Proofs.YtjoiddlknocdfaaDoor
open Go.RowKit
set_option linter.unusedVariables false

def tkA : Tk := ⟨1, [97], 0⟩
def tkD (ds : List UInt8) : Tk := ⟨3, ds, 2⟩

set_option maxRecDepth 100000 in
set_option maxHeartbeats 8000000 in
theorem rtok_num (s : ByteArray) (ds : List UInt8) (hs : Hid (s.data.toList = 97 :: 32 :: ds)) (h0 : 0 < ds.length) (hd : Hid (∀ c ∈ ds, digL c = true)) (hl : ds.length ≤ 100) (w : World) :
    Calls Tryd.prog 11 #[.string s] w (TokPost (numR ds) w) := by
  obtain ⟨i0, hi, hz0, hz1, hz2⟩ := info_parts info_tok
  have HI := Lib.hid hi
  have HZ0 := Lib.hid hz0
  have HZ1 := Lib.hid hz1
  have HZ2 := Lib.hid hz2
  have hsz : s.size = ds.length + 2 := by
    have : s.data.toList.length = s.size := by simp
    rw [← this, hs.out]; simp
  have hsi : (2 : Int) < (s.size : Int) := by omega
  have hsu : ¬ (8000 : Int) < (s.size : Int) := by omega
  have hsm : (s.size : Int) < 200 := by omega
  have hp0 : 0 < s.size := by omega
  have hp1 : 1 < s.size := by omega
  have hg0 := str_get s 0 hp0
  have hg1 := str_get s 1 hp1
  rw [hs.out] at hg0 hg1
  simp only [List.getD_eq_getElem?_getD, List.getElem?_cons_zero, List.getElem?_cons_succ, Option.getD_some] at hg0 hg1
  have HSZ := Lib.hid hsz
  have HL := Lib.hid hl
  have H0 := Lib.hid h0
  clear hi hz0 hz1 hz2 hsz hl h0
  go_enter Tryd.func11, Tryd.ntmps11
  go_wp2_with fail
  obtain ⟨B, hB⟩ : ∃ B, B = w.heap.size := ⟨_, rfl⟩
  have HB := Lib.hid hB
  have HBB : Hid (Below B w w) := Lib.hid (Below.refl _ _)
  clear hB
  go_loopg [5, 6, 7] 3 (fun gk v5 v6 v7 wr => v6 = .slice none 0 0 ∧ Below B w wr ∧ ((v7 = .int .i64 0 ∧ v5 = .slice none 0 0 ∧ gk = 3) ∨ (v7 = .int .i64 1 ∧ gk = 2 ∧ wr.ownsRow B 28 3 v5 1 (tksC [tkA])) ∨ (v7 = .int .i64 2 ∧ gk = 1 ∧ wr.ownsRow B 28 3 v5 1 (tksC [tkA])) ∨ (v7 = .int .i64 (s.size : Int) ∧ gk = 0 ∧ wr.ownsRow B 28 3 v5 2 (tksC [tkA, tkD ds]) ∧ ¬ 9223372036854775807 < decA 0 ds)))
  case atStart => exact ⟨rfl, HBB.out, .inl ⟨rfl, rfl, rfl⟩⟩
  case round =>
    clear HBB
    obtain ⟨rfl, hbr, hcase⟩ := hrel
    have HBR := Lib.hid hbr
    clear hbr
    rcases hcase with ⟨rfl, rfl, rfl⟩ | ⟨rfl, rfl, how⟩ | ⟨rfl, rfl, how⟩ | ⟨rfl, rfl, how, hng⟩
    · as_aux_lemma =>
        have hsi0 : (0 : Int) < (s.size : Int) := by omega
        have hsi1 : (1 : Int) < (s.size : Int) := by omega
        have hsi2 : (1 : Int) ≤ (s.size : Int) := by omega
        go_wp2_with fail
        refine (rlet_z 97 _ (Lib.hid rfl) true (Lib.hid rfl) _).mono ?_
        rintro e w2 ⟨rfl, rfl⟩
        go_wp2_with fail
        go_loopg [12] 1 (fun gk v12 w3 => w3 = wr ∧ ((v12 = .int .i64 0 ∧ gk = 1) ∨ (v12 = .int .i64 1 ∧ gk = 0)))
        case atStart => exact ⟨rfl, .inl ⟨rfl, rfl⟩⟩
        case round =>
          obtain ⟨rfl, h12⟩ := hrel
          rcases h12 with ⟨rfl, rfl⟩ | ⟨rfl, rfl⟩
          · go_wp2_with fail
            refine (rlet_z 97 _ (Lib.hid rfl) true (Lib.hid rfl) _).mono ?_
            rintro e w2 ⟨rfl, rfl⟩
            go_wp2_with fail
            go_roundg 0
            case rel => exact ⟨rfl, .inr ⟨rfl, rfl⟩⟩
            case measure => omega
          · go_wp2_with fail
            refine (rlet_z 32 _ (Lib.hid rfl) false (Lib.hid rfl) _).mono ?_
            rintro e w2 ⟨rfl, rfl⟩
            go_wp2_with fail
            refine (rdig_z 32 _ (Lib.hid rfl) false (Lib.hid rfl) _).mono ?_
            rintro e w2 ⟨rfl, rfl⟩
            go_wp2_with fail
            refine (rword_a _ (show (s.extract 0 1).data.toList = [97] by rw [ext_eq s 0 1 (by omega), hs.out]; rfl) _).mono ?_
            rintro e w4 ⟨rfl, hb4⟩
            have hb5 := HBR.out.trans (hb4.mono (by rw [HB.out]; exact HBR.out.size))
            have HB5 := Lib.hid hb5
            have HS5 : Hid (B ≤ w4.heap.size) := Lib.hid (by have := hb5.size; rw [HB.out]; exact this)
            clear hb4 hb5
            go_wp2_with (at_builtin; go_must (refine wpList_append_lies _ rfl (.tmp 261) (.tmp 269) 23 rfl B 28 i0 (.agg #[.int .u8 0, .string ByteArray.empty, .int .i64 0]) 3 32 Tryd.underlying23 HI.out HZ0.out HZ1.out HZ2.out rfl (by omega) _ 0 (tksC []) rfl (World.ownsRow_nil _ _ _ _) ⟨w4.heap.size, 0, none⟩ 1 1 [.int .u8 1, .string (s.extract 0 1), .int .i64 0] rfl rfl ?a1 ?a2 ?a3 ?a4 ?a5 ?a6 _ rfl ?a7))
            case a1 => intro j u hj; rw [Addr.add_mid]; exact (Has.new w4 [.int .u8 1, .string (s.extract 0 1), .int .i64 0] _).cellAt (by rw [Nat.zero_add]; exact hj)
            case a2 => intro u hu; simp only [List.mem_cons, List.not_mem_nil, or_false] at hu; rcases hu with rfl | rfl | rfl <;> rfl
            case a3 => omega
            case a4 => unfold maxLen; omega
            case a5 => omega
            case a6 => have := HS5.out; have := HB.out; simp; omega
            intro ga capa w6 hown hgrow hat hlt
            have hb6 := (HB5.out.alloc HS5.out _).grown hgrow (by have := HS5.out; simp; omega) (fun k hk => by simp [Value.ownBlock] at hk)
            have HB6 := Lib.hid hb6
            have HO6 : Hid (w6.ownsRow B 28 3 (.slice (some ⟨ga, 0, none⟩) 1 capa) 1 (tksC [tkA])) := Lib.hid (by
              have e : s.extract 0 1 = ⟨#[97]⟩ := by rw [ext_eq s 0 1 (by omega), hs.out]; rfl
              have h := hown
              rw [e] at h
              exact h)
            clear hown hgrow hat hlt hb6
            go_wp2_with fail
            go_roundg 2
            case rel => exact ⟨rfl, HB6.out, .inr (.inl ⟨rfl, rfl, HO6.out⟩)⟩
            case measure => omega
    · as_aux_lemma =>
        have HOW := Lib.hid how
        clear how
        have hsi1 : (1 : Int) < (s.size : Int) := by omega
        go_wp2_with fail
        go_roundg 1
        case rel => exact ⟨rfl, HBR.out, .inr (.inr (.inl ⟨rfl, rfl, HOW.out⟩))⟩
        case measure => omega
    · as_aux_lemma =>
        have HOW := Lib.hid how
        clear how
        obtain ⟨c0, t0, hct⟩ : ∃ c0 t0, ds = c0 :: t0 := by
          cases ds with
          | nil => exact absurd H0.out (by simp)
          | cons c t => exact ⟨c, t, rfl⟩
        have hp2 : 2 < s.size := by omega
        have hg2 := str_get s 2 hp2
        rw [hs.out, hct] at hg2
        simp only [List.getD_eq_getElem?_getD, List.getElem?_cons_zero, List.getElem?_cons_succ, Option.getD_some] at hg2
        have hdc : digL c0 = true := hd.out c0 (by rw [hct]; simp)
        have hrg := dig_iff hdc
        obtain ⟨_, _, hlc⟩ := dig_blk hdc
        have HDC := Lib.hid hdc
        have HLC := Lib.hid hlc
        have n32 : ¬ (c0.toNat : Int) = 32 := by omega
        have n10 : ¬ (c0.toNat : Int) = 10 := by omega
        have n9 : ¬ (c0.toNat : Int) = 9 := by omega
        have n35 : ¬ (c0.toNat : Int) = 35 := by omega
        have n34 : ¬ (c0.toNat : Int) = 34 := by omega
        have m32 : ¬ c0.toNat = 32 := by omega
        have m10 : ¬ c0.toNat = 10 := by omega
        have m9 : ¬ c0.toNat = 9 := by omega
        have m35 : ¬ c0.toNat = 35 := by omega
        have m34 : ¬ c0.toNat = 34 := by omega
        have k32 : ((c0.toNat : Int) == 32) = false := beq_eq_false_iff_ne.2 n32
        have k10 : ((c0.toNat : Int) == 10) = false := beq_eq_false_iff_ne.2 n10
        have k9 : ((c0.toNat : Int) == 9) = false := beq_eq_false_iff_ne.2 n9
        have k35 : ((c0.toNat : Int) == 35) = false := beq_eq_false_iff_ne.2 n35
        have k34 : ((c0.toNat : Int) == 34) = false := beq_eq_false_iff_ne.2 n34
        clear hct hdc hlc hrg hg0 hg1
        go_wp2_with fail
        refine (rlet_z c0 _ (Lib.hid rfl) false HLC _).mono ?_
        rintro e w2 ⟨rfl, rfl⟩
        go_wp2_with fail
        refine (rdig_z c0 _ (Lib.hid rfl) true HDC _).mono ?_
        rintro e w2 ⟨rfl, rfl⟩
        go_wp2_with fail
        go_loopg [12] (s.size - 2) (fun gk v12 w3 => w3 = wr ∧ ∃ m : Nat, v12 = .int .i64 (m : Int) ∧ 2 ≤ m ∧ m ≤ s.size ∧ gk = s.size - m)
        case atStart => exact ⟨rfl, 2, rfl, by omega, by omega, rfl⟩
        case round =>
          obtain ⟨rfl, m, rfl, hm2, hms, rfl⟩ := hrel
          clear hg2 n32 n10 n9 n35 n34 m32 m10 m9 m35 m34 k32 k10 k9 k35 k34
          by_cases hm : m < s.size
          · have hmi : (m : Int) < (s.size : Int) := by omega
            have hgm := str_get s m hm
            obtain ⟨c, hc⟩ : ∃ c, c = s.data.toList.getD m 0 := ⟨_, rfl⟩
            rw [← hc] at hgm
            have HDG : Hid (digL c = true) := Lib.hid (by
              have e : s.data.toList.getD m 0 = ds.getD (m - 2) 0 := by
                rw [hs.out]
                obtain ⟨i, rfl⟩ : ∃ i, m = i + 2 := ⟨m - 2, by omega⟩
                rfl
              have hi : m - 2 < ds.length := by have := HSZ.out; omega
              rw [hc, e, List.getD_eq_getElem?_getD, List.getElem?_eq_getElem hi]
              exact hd.out _ (by simp))
            clear hc
            go_wp2_with fail
            refine (rdig_z c _ (Lib.hid rfl) true HDG _).mono ?_
            rintro e w2 ⟨rfl, rfl⟩
            go_wp2_with fail
            go_roundg (s.size - (m + 1))
            case rel => exact ⟨rfl, m + 1, by go_num, by omega, by omega, rfl⟩
            case measure => omega
          · obtain rfl : m = s.size := by omega
            have hss : ¬ (s.size : Int) < (s.size : Int) := by omega
            have hs2 : (2 : Int) ≤ (s.size : Int) := by omega
            have HX : Hid ((s.extract 2 s.size).data.toList = ds) := Lib.hid (by rw [ext_list s 2 (by omega), hs.out]; rfl)
            clear hm hms hm2
            go_wp2_with fail
            refine (rgreat_any _ ds HX hd.out HL.out _).mono ?_
            rintro e w2 ⟨rfl, rfl⟩
            by_cases hgr : 9223372036854775807 < decA 0 ds
            · have HG : Hid (decide (9223372036854775807 < decA 0 ds) = true) := Lib.hid (decide_eq_true hgr)
              have HR : Hid (numR ds = .error (2, 13)) := Lib.hid (if_pos hgr)
              rw [HG.out]
              clear hgr HG
              go_wp2_with fail
              go_ret3
              exact tok_error HR.out rfl (by rw [← HB.out]; exact HBR.out)
            · have HG : Hid (decide (9223372036854775807 < decA 0 ds) = false) := Lib.hid (decide_eq_false hgr)
              have HNG := Lib.hid hgr
              rw [HG.out]
              obtain ⟨lv, ln, lc, rfl⟩ := row_form HOW.out
              have HBS : Hid (B ≤ wr.heap.size) := Lib.hid (by have := HBR.out.size; rw [HB.out]; exact this)
              clear hgr HG
              go_wp2_with (at_builtin; go_must (refine wpList_append_lies _ rfl (.tmp 304) (.tmp 311) 23 rfl B 28 i0 (.agg #[.int .u8 0, .string ByteArray.empty, .int .i64 0]) 3 32 Tryd.underlying23 HI.out HZ0.out HZ1.out HZ2.out rfl (by omega) _ 1 (tksC [tkA]) rfl (HOW.out.alloc _) ⟨wr.heap.size, 0, none⟩ 1 1 [.int .u8 3, .string (s.extract 2 s.size), .int .i64 2] rfl rfl ?b1 ?b2 ?b3 ?b4 ?b5 ?b6 _ rfl ?b7))
              case b1 => intro j u hj; rw [Addr.add_mid]; exact (Has.new wr [.int .u8 3, .string (s.extract 2 s.size), .int .i64 2] _).cellAt (by rw [Nat.zero_add]; exact hj)
              case b2 => intro u hu; simp only [List.mem_cons, List.not_mem_nil, or_false] at hu; rcases hu with rfl | rfl | rfl <;> rfl
              case b3 => omega
              case b4 => unfold maxLen; omega
              case b5 => omega
              case b6 => have := HBS.out; have := HB.out; simp; omega
              intro ga capa w6 hown hgrow hat hlt
              have hb6 := (HBR.out.alloc HBS.out _).grown hgrow (by have := HBS.out; simp; omega) (fun k hk => (HOW.out.lt k hk).1)
              have HB6 := Lib.hid hb6
              have HO6 : Hid (w6.ownsRow B 28 3 (.slice (some ⟨ga, 0, none⟩) 2 capa) 2 (tksC [tkA, tkD ds])) := Lib.hid (by
                have e : s.extract 2 s.size = ⟨ds.toArray⟩ := bytes_ext HX.out
                have h := hown
                rw [e] at h
                exact h)
              clear hown hgrow hat hlt hb6
              go_wp2_with fail
              go_roundg 0
              case rel => exact ⟨rfl, HB6.out, .inr (.inr (.inr ⟨rfl, rfl, HO6.out, HNG.out⟩))⟩
              case measure => omega
    · as_aux_lemma =>
        have HOW := Lib.hid how
        have HNG := Lib.hid hng
        clear how hng
        have hss : ¬ (s.size : Int) < (s.size : Int) := by omega
        clear hg0 hg1
        obtain ⟨lv, ln, lc, rfl⟩ := row_form HOW.out
        have HBS : Hid (B ≤ wr.heap.size) := Lib.hid (by have := HBR.out.size; rw [HB.out]; exact this)
        go_wp2_with (at_builtin; go_must (refine wpList_append_lies _ rfl (.tmp 332) (.tmp 336) 23 rfl B 28 i0 (.agg #[.int .u8 0, .string ByteArray.empty, .int .i64 0]) 3 32 Tryd.underlying23 HI.out HZ0.out HZ1.out HZ2.out rfl (by omega) _ 2 (tksC [tkA, tkD ds]) rfl (HOW.out.alloc _) ⟨wr.heap.size, 0, none⟩ 1 1 [.int .u8 0, .string (⟨#[]⟩), .int .i64 (s.size : Int)] rfl rfl ?d1 ?d2 ?d3 ?d4 ?d5 ?d6 _ rfl ?d7))
        try (case d1 => (intro j u hj; rw [Addr.add_mid]; exact (Has.new wr [.int .u8 0, .string (⟨#[]⟩), .int .i64 (s.size : Int)] _).cellAt (by rw [Nat.zero_add]; exact hj)))
        try (case d2 => first | exact ⟨rfl, rfl, rfl⟩ | (intro u hu; simp only [List.mem_cons, List.not_mem_nil, or_false] at hu; rcases hu with rfl | rfl | rfl <;> rfl))
        try (case d3 => (omega))
        try (case d4 => first | (unfold maxLen; omega) | (simp [maxLen]))
        try (case d5 => (omega))
        try (case d6 => have := HBS.out; have := HB.out; first | omega | (simp; omega))
        intro ga capa w6 hown hgrow hat hlt
        have hb6 := (HBR.out.alloc HBS.out _).grown hgrow (by have := HBS.out; simp; omega) (fun k hk => (HOW.out.lt k hk).1)
        have HB6 := Lib.hid hb6
        have HO6 : Hid (w6.ownsRow B 28 3 (.slice (some ⟨ga, 0, none⟩) 3 capa) 3 (tksC [tkA, tkD ds, ⟨0, [], 2 + ds.length⟩])) := Lib.hid (by
          have e : (s.size : Int) = ((2 + ds.length : Nat) : Int) := by have := HSZ.out; omega
          have h := hown
          rw [e] at h
          exact h)
        have HR : Hid (numR ds = .ok [tkA, tkD ds, ⟨0, [], 2 + ds.length⟩]) := Lib.hid (if_neg HNG.out)
        clear hown hgrow hat hlt hb6
        go_wp2_with fail
        go_ret3
        exact tok_ok HR.out rfl (by rw [← HB.out]; exact HO6.out) (by rw [← HB.out]; exact HB6.out)

end Go.Proofs.YtjoiddlknocdfaaDoor
