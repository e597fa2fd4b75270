/-
  Refs' awake holds. No conditions.
-/
import Derived.Test.YtcmgafehidgkmaaRfRTree
import Derived.BigFrame
import Derived.Lib.SmallJoins
namespace Go.Proofs.Ytcmgafehidgkmaa
open Go.RowKit
set_option linter.unusedVariables false

theorem path_list (d : List UInt8) (s : ByteArray) : (Nam.pathB d s).data.toList = Nam.enc d ++ 45 :: s.data.toList := by
  simp [Nam.pathB, ByteArray.data_append]
theorem enc_len (d : List UInt8) (hd : d.length = 20) : (Nam.enc d).length = 32 := by rw [Nam.enc_length, hd]; rfl
theorem path_isP (d : List UInt8) (n : ByteArray) (hd : d.length = 20) (hn : Nam.isName n.data.toList = true) : isP (btsOf (Nam.pathB d n)) = true := by
  have hl := enc_len d hd
  have e : btsOf (Nam.pathB d n) = Nam.enc d ++ 45 :: n.data.toList := path_list d n
  have h1 : (Nam.enc d ++ 45 :: n.data.toList).take 32 = Nam.enc d := by rw [← hl]; simp
  have h2 : (Nam.enc d ++ 45 :: n.data.toList).drop 32 = 45 :: n.data.toList := by rw [← hl]; simp
  have h3 : (Nam.enc d ++ 45 :: n.data.toList).drop 33 = n.data.toList := by
    have : (Nam.enc d ++ 45 :: n.data.toList).drop 33 = ((Nam.enc d ++ 45 :: n.data.toList).drop 32).drop 1 := by rw [List.drop_drop]
    rw [this, h2]; rfl
  unfold isP
  rw [e]
  unfold Nam.parseP
  rw [h1, h2, h3, if_pos ⟨by simp; omega, by simp [Nam.dash], hn⟩, Nam.dec_enc]
  rfl
theorem path_key (d : List UInt8) (n : ByteArray) (hd : d.length = 20) : keyB (Nam.pathB d n) = Nam.enc d := by
  unfold keyB
  rw [path_list, ← enc_len d hd]; simp
theorem path_keyT (d : List UInt8) (n : ByteArray) (hd : d.length = 20) : keyT (btsOf (Nam.pathB d n)) = Nam.enc d := path_key d n hd
theorem path_size (d : List UInt8) (n : ByteArray) (hd : d.length = 20) : (Nam.pathB d n).size = 33 + n.size := by
  have h := congrArg List.length (path_list d n)
  rw [List.length_append, enc_len d hd] at h
  simp at h; omega
theorem ans_yes {Q : Bts → Prop} {s : Bts} (hp : isP s = true) (hq : Q (keyT s)) : ansT Q [s] = [s] := by
  unfold ansT sortT
  simp only [List.foldl_cons, List.foldl_nil, putT, List.filter_cons, hp, if_true, List.filter_nil, first2]
  rw [if_neg (by simp)]
  simp [dQ_iff.2 hq]
theorem ans_no {Q : Bts → Prop} (h : ∀ k, k.length = 32 → ¬ Q k) (l : List Bts) : ansT Q l = [] := by
  unfold ansT
  rw [List.filter_eq_nil_iff]
  intro b hb
  rw [dQ_iff]
  have h1 := (List.mem_filter.1 (first2_mem _ _ _ _ hb)).2
  have h2 := parse_len h1
  exact h _ (by unfold keyT; rw [List.length_take]; omega)

theorem isS_one {W : World} {b : Nat} {s : ByteArray} (h : Has W b [.string s] 9) : IsS W (some ⟨b, 0, none⟩) 1 1 [s] :=
  ⟨rfl, .inr ⟨b, 0, rfl, h.lt, fun i hi => by obtain rfl : i = 0 := by omega
                                              exact h.cellAt rfl⟩, (fun e => by cases e), ⟨Nat.le_refl _, by unfold maxLen; omega⟩⟩
def dOne : List UInt8 := 1 :: List.replicate 19 0

set_option maxRecDepth 100000 in
set_option maxHeartbeats 8000000 in
theorem awake_any (w : World) :
    Calls Try.prog 8 #[] w fun e w' => e = .returned (.bool true) ∧ Below w.heap.size w w' := by
  go_enter Try.func8, Try.ntmps8
  go_wp2_with fail
  refine (Nam.rpath_yes dOne ⟨#[97]⟩ w rfl (by decide)).mono ?_
  rintro e w1 ⟨rfl, b1⟩
  obtain ⟨s, hs⟩ : ∃ s, s = Nam.pathB dOne ⟨#[97]⟩ := ⟨_, rfl⟩
  rw [← hs]
  have hsz : s.size = 34 := by rw [hs, path_size _ _ rfl]; rfl
  have HP : Hid (isP (btsOf s) = true) := Lib.hid (by rw [hs]; exact path_isP _ _ rfl (by decide))
  have HKS : Hid (keyT (btsOf s) <:+: btsOf s) := Lib.hid (List.IsPrefix.isInfix (List.take_prefix _ _))
  have B1 := Lib.hid b1
  have n1 : ¬ 9223372036854775807 < 1 + s.size := by omega
  have n2 : ¬ 9223372036854775807 < 1 + s.size + 1 := by omega
  have hcv : ∀ (S : ByteArray) (W : World), (convert 9 22 (.string S)).run Try.prog W = .ok (.slice (some ⟨W.heap.size, 0, none⟩) S.size (grownCap W S.size 0 5)) (Lib.bytesWorld W 5 S) := fun S W =>
    Lib.run_convert_string_bytes W _ _ _ S Try.underlying9 Try.underlying22 Try.underlying5
  have HSZ := Lib.hid hsz
  clear hs b1 hsz
  go_wp2_with fail
  obtain ⟨X, hX⟩ : ∃ X : ByteArray, X = (⟨#[120]⟩ : ByteArray) ++ s ++ ⟨#[121]⟩ := ⟨_, rfl⟩
  have hXs : X.size = 1 + s.size + 1 := by rw [hX]; simp [ByteArray.size_append]; rfl
  have hXl : X.data.toList = 120 :: (btsOf s ++ [121]) := by rw [hX]; simp [ByteArray.data_append, btsOf]
  rw [← hX, ← hXs]
  have HXL := Lib.hid hXl
  have hXb : X.size ≤ 140737488355328 := by rw [hXs, HSZ.out]; decide
  obtain ⟨wB, hwB⟩ : ∃ wB, wB = Lib.bytesWorld w1 5 X := ⟨_, rfl⟩
  have hbB : Below w1.heap.size w1 wB := by rw [hwB]; exact below_bytes w1 X
  have hIB : IsB wB (some ⟨w1.heap.size, 0, none⟩) X.size (grownCap w1 X.size 0 5) X.data.toList := by rw [hwB]; exact convY_isB w1 X hXb
  have hzB : wB.heap.size = w1.heap.size + 1 := by rw [hwB]; exact Lib.bytesWorld_size _ _ _
  rw [← hwB]
  have hIS := isS_one (Has.new wB [.string s] 9)
  have hb2 : Below wB.heap.size wB (wB.alloc (.cells #[.string s] 9)) := (Below.refl _ _).alloc (Nat.le_refl _) _
  have B2 : Hid (Below w.heap.size w (wB.alloc (.cells #[.string s] 9))) := Lib.hid ((B1.out.trans (hbB.mono B1.out.size)).trans (hb2.mono (by have := B1.out.size; omega)))
  refine (bytes_any _ _ _ X.data.toList _ 1 1 [s] _ (hIB.later hb2) hXb hIS (by decide)).mono ?_
  rintro e w4 ⟨v, o, rfl, ho, how, _, hb4⟩
  have ho1 : o = [s] := by
    rw [List.map_cons, List.map_nil, ans_yes HP.out (show keyT (btsOf s) <:+: X.data.toList from by
      rw [HXL.out]
      obtain ⟨y, z, e⟩ := HKS.out
      exact ⟨120 :: y, z ++ [121], by have h := congrArg (fun l => (120 : UInt8) :: (l ++ [121])) e; simpa using h⟩)] at ho
    match o, ho with
    | [x], ho =>
      have h1 : btsOf x = btsOf s := by simpa using ho
      rw [bytes_ext h1]
  subst ho1
  obtain ⟨g, gc, rfl, _, _⟩ := how.form (by simp)
  have cg : w4.cell? ⟨g, 0, none⟩ = some (.string s) := by
    have h := how.cellAt 0 (by simp)
    simpa using h
  have B4 : Hid (Below w.heap.size w w4) := Lib.hid (B2.out.trans (hb4.mono B2.out.size))
  have heq : (s.toList == s.toList) = true := by simp
  have hcv2 := Lib.run_convert_bytes_const (P := Try.prog) w4 22 5 #[.int .u8 120] 1 1 Try.underlying22 Try.underlying5
  have HGL : Hid (g < w4.heap.size) := Lib.hid (how.lt g rfl).2
  clear hX hXs hXl hXb hwB hbB hIB hzB hIS hb2 ho how hb4 hcv n1 n2
  go_wp2_with fail
  obtain ⟨w5, hw5⟩ : ∃ w5, w5 = w4.alloc (.cells #[.int .u8 120] 5 (1, 2)) := ⟨_, rfl⟩
  rw [← hw5]
  have hz5 : w5.heap.size = w4.heap.size + 1 := by rw [hw5]; simp
  have hb5 : Below w4.heap.size w4 w5 := by rw [hw5]; exact (Below.refl _ _).alloc (Nat.le_refl _) _
  have hI5 : IsB w5 (some ⟨w4.heap.size, 0, none⟩) 1 1 [120] := by
    refine ⟨rfl, .inr ⟨_, 0, rfl, by omega, fun i hi => ?_⟩, ?_, ?_, ?_⟩
    · obtain rfl : i = 0 := by simpa using hi
      rw [hw5, Nat.zero_add, Joins.cell_alloc_mark_at w4 _ _ _ _ _ rfl]; rfl
    all_goals first | (intro e; cases e) | (exact ⟨Nat.le_refl _, by unfold maxLen; omega⟩) | (unfold maxLen; omega) | omega
  have hIS := isS_one (Has.new w5 [.string s] 9)
  rw [hz5] at hIS
  have hb6 : Below w5.heap.size w5 (w5.alloc (.cells #[.string s] 9)) := (Below.refl _ _).alloc (Nat.le_refl _) _
  have B6 : Hid (Below w.heap.size w (w5.alloc (.cells #[.string s] 9))) := Lib.hid ((B4.out.trans (hb5.mono B4.out.size)).trans (hb6.mono (by have := B4.out.size; omega)))
  refine (bytes_any _ _ _ [120] _ 1 1 [s] _ (hI5.later hb6) (by decide) hIS (by decide)).mono ?_
  rintro e w7 ⟨v7, o7, rfl, ho7, how7, _, hb7⟩
  have ho1 : o7 = [] := by
    rw [ans_no (fun k hk hi => by
      have := hi.length_le
      simp at this; omega)] at ho7
    exact List.map_eq_nil_iff.1 ho7
  subst ho1
  obtain ⟨vb, vc, rfl⟩ := row_form2 how7
  have B7 : Hid (Below w.heap.size w w7) := Lib.hid (B6.out.trans (hb7.mono B6.out.size))
  clear hw5 hz5 hb5 hI5 hIS hb6 ho7 how7 hb7
  go_wp2_with fail
  refine bodyPost_ret (results_tmp rfl _ _ _) rfl ?_
  exact ⟨rfl, B7.out⟩

end Go.Proofs.Ytcmgafehidgkmaa
