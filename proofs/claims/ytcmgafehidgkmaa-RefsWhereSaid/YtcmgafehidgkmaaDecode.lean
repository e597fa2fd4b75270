/-
  The contract of base.Decode: the bytes of some signs, or that there are none. Conditions: at most a hundred thousand signs.
-/
import Derived.Test.YtcmgafehidgkmaaRowMore
import Derived.Test.YtcmgafehidgkmaaPut
import Derived.Test.YtcmgafehidgkmaaIdx
namespace Go.Proofs.Ytcmgafehidgkmaa.Nam
open Go.RowKit

/-- What is handed back for bytes, or for none. -/
def DecPost (o : Option (List UInt8)) (w : World) (e : Ending) (w' : World) : Prop :=
  (∀ p, o = some p → ∃ g, e = .returned (.tuple #[.slice (some ⟨g, 0, none⟩) p.length p.length, .int .i64 0]) ∧
    w'.ownsRow w.heap.size 5 1 (.slice (some ⟨g, 0, none⟩) p.length p.length) p.length (p.map bv)) ∧
  (o = none → e = .returned (.tuple #[.slice none 0 0, .int .i64 3])) ∧ Below w.heap.size w w'

theorem pow32_5 (k : Nat) : (2 : Nat) ^ (5 * k) = 32 ^ k := (pow32 k).symm

theorem rv_take_le (r : List UInt8) (k : Nat) : rv (r.take k) ≤ rv r := by
  have := rv_append (r.take k) (r.drop k)
  rw [List.take_append_drop] at this
  rw [this]; omega

theorem rev_get (l : List UInt8) (k : Nat) (h : k < l.length) : l.reverse.getD k 0 = l.getD (l.length - 1 - k) 0 := by
  rw [List.getD_eq_getElem?_getD, List.getD_eq_getElem?_getD, List.getElem?_reverse h]

theorem dec_none_oks (l : List UInt8) (k : Nat) (h : k < l.length) (hs : sv (l.reverse.getD k 0) < 0) : dec l = none := by
  unfold dec
  rw [if_neg]
  rintro ⟨_, h2, _⟩
  have h3 := oks_all_take l.reverse (k + 1) (by rw [oks_reverse]; exact h2)
  rw [oks_take _ _ (by rw [List.length_reverse]; exact h)] at h3
  simp at h3
  have := h3.2
  rw [List.getD_eq_getElem?_getD] at hs
  omega

theorem dec_none_big (l : List UInt8) (k : Nat) (h : 256 ^ dlen l.length ≤ rv (l.reverse.take k)) : dec l = none := by
  unfold dec
  rw [if_neg]
  rintro ⟨_, _, h3⟩
  have := rv_take_le l.reverse k
  omega

theorem dec_none_len (l : List UInt8) (h : slen (dlen l.length) ≠ l.length) : dec l = none := by
  unfold dec
  rw [if_neg]
  rintro ⟨h1, _⟩
  exact h h1

theorem dlen_int (n : Nat) : (n : Int) / 8 * 5 + (n : Int) % 8 * 5 / 8 = (dlen n : Int) := by unfold dlen; omega

set_option maxHeartbeats 1000000 in
theorem decode_far (s : ByteArray) (w : World) (hm : s.size ≤ 100000) (h : slen (dlen s.size) ≠ s.size) :
    Calls Try.prog 54 #[.string s] w fun e w' => DecPost (dec s.data.toList) w e w' := by
  have hn := dec_none_len s.data.toList (by simpa using h)
  rw [hn]
  have h1 : ((slen (dlen s.size) : Nat) : Int) ≠ (s.size : Int) := by omega
  have h2 : (((slen (dlen s.size) : Nat) : Int) != (s.size : Int)) = true := by simpa using h1
  clear h h1 hn
  rcases Nat.eq_zero_or_pos (dlen s.size) with h0 | h0
  · have h3 : (s.size : Int) / 8 * 5 + (s.size : Int) % 8 * 5 / 8 ≤ 0 := by rw [dlen_int]; omega
    rw [h0] at h2
    have h4 : ((0 : Int) != (s.size : Int)) = true := h2
    have H3 := Lib.hid h3
    clear h0 h2 h3
    go_enter Try.func54, Try.ntmps54
    go_wp2_with (go_at_call 65; refine (len_none _ _ H3.out).mono ?_; rintro e w' ⟨rfl, rfl⟩)
    go_ret2
    exact ⟨(fun p hp => by cases hp), (fun _ => rfl), Below.refl _ _⟩
  · have h3 : 0 < (s.size : Int) / 8 * 5 + (s.size : Int) % 8 * 5 / 8 := by rw [dlen_int]; omega
    have e3 : ((s.size : Int) / 8 * 5 + (s.size : Int) % 8 * 5 / 8).toNat = dlen s.size := by rw [dlen_int]; omega
    have H3 := Lib.hid h3
    have E3 := Lib.hid e3
    clear h0 h3 e3
    go_enter Try.func54, Try.ntmps54
    go_wp2_with (go_at_call 65; refine (len_any _ _ H3.out (by omega)).mono ?_; rintro e w' ⟨rfl, rfl⟩; rw [E3.out])
    go_ret2
    exact ⟨(fun p hp => by cases hp), (fun _ => rfl), Below.refl _ _⟩

set_option maxHeartbeats 1000000 in
theorem decode_nil (s : ByteArray) (w : World) (h : s.size = 0) :
    Calls Try.prog 54 #[.string s] w fun e w' => DecPost (dec s.data.toList) w e w' := by
  obtain ⟨i0, hi, hz0, hz1, hz2⟩ := info_parts info_u8
  have hs : s.data.toList = [] := by
    apply List.eq_nil_of_length_eq_zero
    simpa using h
  have hd : dec s.data.toList = some [] := by rw [hs]; rfl
  rw [hd]
  clear hd hs
  go_enter Try.func54, Try.ntmps54
  go_wp2_with (first
    | (go_at_call 65; refine (len_none _ _ (by omega)).mono ?_; rintro e w' ⟨rfl, rfl⟩)
    | (at_make; refine wpList_make_full _ rfl _ _ 22 rfl w.heap.size 5 i0 (.int .u8 0) 1 Try.underlying22 hi hz0 hz1 _ _ _ _ 0 rfl rfl ?m1 ?m2 ?m3 ?m4 ?m5 ?m6))
  case m1 => rfl
  case m2 => rfl
  case m3 => omega
  case m4 => unfold maxLen; omega
  case m5 => exact Nat.le_refl _
  intro w1 hown0 hgrow0
  have hown1 : w1.ownsRow w.heap.size 5 1 (.slice (some ⟨w.heap.size, 0, none⟩) 0 0) 0 [] := by simpa [madeCells] using hown0
  have hbel1 : Below w.heap.size w w1 := (Below.refl _ _).grown hgrow0 (Nat.le_refl _) (by intro k hk; cases hk)
  clear hown0 hgrow0 hi hz0 hz1 hz2
  go_wp2_with fail
  refine wp_loop_rounds 1 ?_
  rw [rounds_succ]
  go_wp2
  go_ret2
  exact ⟨(fun p hp => by cases hp; exact ⟨_, rfl, hown1⟩), (fun h => by cases h), hbel1⟩

theorem cells_nought (n : Nat) : (List.replicate n (Value.int .u8 0)) = (byN n 0).map bv := by
  induction n with
  | zero => rfl
  | succ n ih => simp [List.replicate_succ, byN, ih, bv]

set_option maxHeartbeats 2000000 in
theorem decode_some (s : ByteArray) (w : World) (hm : s.size ≤ 100000) (h : slen (dlen s.size) = s.size) (hpos : 0 < s.size) :
    Calls Try.prog 54 #[.string s] w fun e w' => DecPost (dec s.data.toList) w e w' := by
  obtain ⟨i0, hi, hz0, hz1, hz2⟩ := info_parts info_u8
  have hn0 : 0 < dlen s.size := by
    rcases Nat.eq_zero_or_pos (dlen s.size) with h0 | h0
    · rw [h0] at h; unfold slen at h; omega
    · exact h0
  have e3 : ((s.size : Int) / 8 * 5 + (s.size : Int) % 8 * 5 / 8) = (dlen s.size : Int) := dlen_int _
  have h2 : (((slen (dlen s.size) : Nat) : Int) != (s.size : Int)) = false := by rw [h]; simp
  have h5 : 5 * s.size < 8 * dlen s.size + 5 := by unfold slen at h; omega
  have hbig : dlen s.size ≤ 100000 := by unfold dlen; omega
  have hlen : s.data.toList.length = s.size := by simp
  have HL := Lib.hid hlen
  have HS := Lib.hid h
  have E3 := Lib.hid e3
  clear h hlen e3
  generalize hn : dlen s.size = n at *
  have HN := Lib.hid hn
  clear hn
  go_enter Try.func54, Try.ntmps54
  go_wp2_with (first
    | (go_at_call 65; rw [E3.out]; refine (len_any _ _ (by omega) (by omega)).mono ?_; rintro e w' ⟨rfl, rfl⟩; rw [Int.toNat_natCast])
    | (at_make; refine wpList_make_full _ rfl _ _ 22 rfl w.heap.size 5 i0 (.int .u8 0) 1 Try.underlying22 hi hz0 hz1 _ _ _ _ n rfl rfl ?m1 ?m2 ?m3 ?m4 ?m5 ?m6))
  case m1 => rfl
  case m2 => rfl
  case m3 => rw [hz2]; omega
  case m4 => unfold maxLen; omega
  case m5 => exact Nat.le_refl _
  intro w1 hown0 hgrow0
  have hown1 : w1.ownsRow w.heap.size 5 1 (.slice (some ⟨w.heap.size, 0, none⟩) n n) n ((byN n 0).map bv) := by
    have := hown0
    rw [toList_madeCells_one, cells_nought] at this
    exact this
  have hbel1 : Below w.heap.size w w1 := (Below.refl _ _).grown hgrow0 (Nat.le_refl _) (by intro k hk; cases hk)
  clear hown0 hgrow0 hi hz0 hz1 hz2
  go_wp2_with fail
  go_loopw [27] (fun i wr => ∃ k : Nat, k ≤ s.size ∧ i = .int .i64 k ∧ oks (s.data.toList.reverse.take k) = true ∧ rv (s.data.toList.reverse.take k) < 256 ^ n ∧ wr.ownsRow w.heap.size 5 1 (.slice (some ⟨w.heap.size, 0, none⟩) n n) n ((byN n (rv (s.data.toList.reverse.take k))).map bv) ∧ Below w.heap.size w wr) (fun i _ => s.size - (intOf i).toNat)
  case atStart => exact ⟨0, Nat.zero_le _, rfl, by simp [oks], by simp [rv]; exact Nat.pos_of_ne_zero (by simp), hown1, hbel1⟩
  case round =>
    clear hown1 hbel1
    obtain ⟨k, hk, rfl, hok, hfit, hown, hbel⟩ := hrel
    by_cases hlt : k < s.size
    · have hlt' : k < s.data.toList.length := by rw [HL.out]; exact hlt
      have hget : (s[s.size - 1 - k]'(by omega)) = s.data.toList.reverse.getD k 0 := by
        rw [rev_get _ _ hlt', HL.out, List.getD_eq_getElem?_getD, List.getElem?_eq_getElem (by rw [HL.out]; omega)]
        rfl
      have hrt := rv_take s.data.toList.reverse k (by rw [List.length_reverse]; exact hlt')
      have hot := oks_take s.data.toList.reverse k (by rw [List.length_reverse]; exact hlt')
      have hdn := dec_none_oks s.data.toList k hlt'
      have hdb := dec_none_big s.data.toList (k + 1)
      have hrl : rv (s.data.toList.reverse.take k) < 2 ^ (5 * k) := by
        have := rv_lt (s.data.toList.reverse.take k)
        rw [List.length_take, List.length_reverse, Nat.min_eq_left (by omega), ← pow32_5] at this
        exact this
      rw [HL.out, HN.out] at hdb
      rw [← pow32_5] at hrt
      generalize s.data.toList.reverse.getD k 0 = c at *
      generalize rv (s.data.toList.reverse.take k) = N at *
      have HG := Lib.hid hget
      have HRT := Lib.hid hrt
      have HOT := Lib.hid hot
      have HOK := Lib.hid hok
      have HDN := Lib.hid hdn
      have HDB := Lib.hid hdb
      have HRL := Lib.hid hrl
      have HFIT := Lib.hid hfit
      clear hget hrt hot hok hdn hdb hrl hlt' hfit
      by_cases hneg : sv c < 0
      · have hd : decide (sv c < 0) = true := by simpa using hneg
        go_wp2_with fail
        rw [HG.out]
        refine (index_sign c _).mono ?_
        rintro e w' ⟨rfl, rfl⟩
        go_wp2_with fail
        go_ret2
        rw [HDN.out hneg]
        exact ⟨(fun p hp => by cases hp), (fun _ => rfl), hbel⟩
      · have hd : decide (sv c < 0) = false := by simpa using hneg
        obtain ⟨v, hv⟩ : ∃ v : Nat, sv c = (v : Int) := ⟨(sv c).toNat, by omega⟩
        have hv32 : v < 32 := by have := sv_lt c; omega
        have htn : (sv c).toNat = v := by omega
        have HV := Lib.hid hv
        have HT := Lib.hid htn
        have hz : (0 : Int) ≤ (v : Int) := by omega
        have hd2 : decide ((v : Int) < 0) = false := by simp
        clear hv htn hd
        by_cases hfit2 : N + 2 ^ (5 * k) * v < 256 ^ n
        · have HF := Lib.hid hfit2
          clear hfit2
          go_wp2_with fail
          rw [HG.out]
          refine (index_sign c _).mono ?_
          rintro e w' ⟨rfl, rfl⟩
          rw [HV.out]
          go_wp2_with fail
          refine (put_any w.heap.size w.heap.size n N k v _ wr (by omega) (by omega) (by omega) HRL.out hv32 hown).mono ?_
          rintro e w2 ⟨rfl, ho2, hg2⟩
          rw [decide_eq_true HF.out]
          have ho3 := ho2 HF.out
          have hb2 : Below w.heap.size w w2 := hbel.grown hg2 hbel.size (by intro k hk; cases hk; exact Nat.le_refl _)
          clear ho2 hg2
          go_wp2_with fail
          go_roundw
          case rel => exact ⟨k + 1, by omega, by go_num, by rw [HOT.out, HOK.out]; simp; omega, by rw [HRT.out, HT.out]; exact HF.out, by rw [HRT.out, HT.out]; exact ho3, hb2⟩
          case measure => simp [intOf]; omega
        · have HF := Lib.hid hfit2
          clear hfit2
          go_wp2_with fail
          rw [HG.out]
          refine (index_sign c _).mono ?_
          rintro e w' ⟨rfl, rfl⟩
          rw [HV.out]
          go_wp2_with fail
          refine (put_any w.heap.size w.heap.size n N k v _ wr (by omega) (by omega) (by omega) HRL.out hv32 hown).mono ?_
          rintro e w2 ⟨rfl, ho2, hg2⟩
          rw [decide_eq_false HF.out]
          have hb2 : Below w.heap.size w w2 := hbel.grown hg2 hbel.size (by intro k hk; cases hk; exact Nat.le_refl _)
          clear ho2 hg2
          go_wp2_with fail
          go_ret2
          rw [HDB.out (by rw [HRT.out, HT.out]; have := HF.out; omega)]
          exact ⟨(fun p hp => by cases hp), (fun _ => rfl), hb2⟩
    · obtain rfl : k = s.size := by omega
      have ht : s.data.toList.reverse.take s.size = s.data.toList.reverse := by
        rw [List.take_of_length_le (by rw [List.length_reverse, HL.out]; exact Nat.le_refl _)]
      rw [ht] at hok hfit hown
      have hdec : dec s.data.toList = some (byN n (rv s.data.toList.reverse)) := by
        unfold dec
        rw [HL.out, HN.out, if_pos ⟨HS.out, by rw [← oks_reverse]; exact hok, hfit⟩]
      have HD := Lib.hid hdec
      have HOK := Lib.hid hok
      have HFIT := Lib.hid hfit
      clear ht hdec hok hfit
      go_wp2_with fail
      go_ret2
      rw [HD.out]
      refine ⟨(fun p hp => ?_), (fun h => by cases h), hbel⟩
      cases hp
      exact ⟨w.heap.size, by rw [byN_length]; rfl, by rw [byN_length]; exact hown⟩

theorem decode_any (s : ByteArray) (w : World) (hm : s.size ≤ 100000) :
    Calls Try.prog 54 #[.string s] w fun e w' => DecPost (dec s.data.toList) w e w' := by
  by_cases h : slen (dlen s.size) = s.size
  · rcases Nat.eq_zero_or_pos s.size with h0 | h0
    · exact decode_nil s w h0
    · exact decode_some s w hm h h0
  · exact decode_far s w hm h

end Go.Proofs.Ytcmgafehidgkmaa.Nam
