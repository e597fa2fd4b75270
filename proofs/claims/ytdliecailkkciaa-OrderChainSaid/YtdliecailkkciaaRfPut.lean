/-
  The contract of the reference's Put. Conditions: bounds on the number of texts.
-/
import Derived.Test.YtdliecailkkciaaRfIn
import Derived.Test.YtdliecailkkciaaRfSort
import Derived.Laws.AppendOwn
import Derived.Laws.OwnMore
import Derived.OwnWalk
import Derived.Deep.DeepMust
import Derived.Deep.AppendLies
import Derived.Deep.MidRow
import Derived.ProofKit
namespace Go.Proofs.Ytdliecailkkciaa
open Go.RowKit
set_option linter.unusedVariables false

theorem info_str : (Try.prog.info? 9).map (fun i => (i.zero, i.size, i.bytes)) = some (some (.string ByteArray.empty), 1, 16) := by kernel_rfl
/-- A text's bytes. -/
def btsOf (s : ByteArray) : Bts := s.data.toList
/-- What is still to come of Put. -/
def restT (s : Bts) (done : Bool) (l : List Bts) : List Bts := if done = true then l.filter (· != s) else putT s l
theorem restT_ge {s x : Bts} {t : List Bts} (h : ¬ x < s) : restT s false (x :: t) = s :: restT s true (x :: t) := by
  show putT s (x :: t) = s :: (x :: t).filter (· != s)
  rw [putT, if_neg h]
theorem restT_lt {s x : Bts} {t : List Bts} (h : x < s) : restT s false (x :: t) = x :: restT s false t := by
  show putT s (x :: t) = x :: putT s t
  rw [putT, if_pos h]
theorem restT_ne {s x : Bts} {t : List Bts} (h : x ≠ s) : restT s true (x :: t) = x :: restT s true t := by
  show (x :: t).filter (· != s) = x :: t.filter (· != s)
  simp [h]
theorem restT_eq {s x : Bts} {t : List Bts} (h : x = s) : restT s true (x :: t) = restT s true t := by
  show (x :: t).filter (· != s) = t.filter (· != s)
  simp [h]
theorem slice_form {w : World} {B n size : Nat} {e : TypeId} {v : Value} {xs : List Value} (h : w.ownsRow B e size v n xs) : ∃ b m c, v = .slice b m c := by
  rcases h.2 with ⟨rfl, _⟩ | ⟨g, cap, cur, rfl, _⟩
  · exact ⟨_, _, _, rfl⟩
  · exact ⟨_, _, _, rfl⟩

set_option maxRecDepth 100000 in
set_option maxHeartbeats 8000000 in
theorem put_any (a : Option Addr) (n cap : Nat) (l : List ByteArray) (w : World) (hS : IsS w a n cap l) (hn : n ≤ 100000) (s : ByteArray) :
    Calls Try.prog 25 #[.slice a n cap, .string s] w fun e w' => ∃ (v : Value) (out : List ByteArray), e = .returned v ∧ out.map btsOf = putT (btsOf s) (l.map btsOf) ∧ w'.ownsRow w.heap.size 9 1 v out.length (out.map Value.string) ∧ Below w.heap.size w w' := by
  obtain ⟨i0, hi, hz0, hz1, hz2⟩ := info_parts info_str
  have HI := Lib.hid hi
  have HZ0 := Lib.hid hz0
  have HZ1 := Lib.hid hz1
  have HZ2 := Lib.hid hz2
  have hnl := hS.length
  have HNL := Lib.hid hnl
  have hat := hS.at_
  clear hi hz0 hz1 hz2 hS hnl
  go_enter Try.func25, Try.ntmps25
  go_wp2_with fail
  obtain ⟨B, hB⟩ : ∃ B, B = w.heap.size := ⟨_, rfl⟩
  have HB := Lib.hid hB
  rw [← hB] at hat
  clear hB
  go_loopg [5, 6, 7] (n + 1) (fun gk v5 v6 v7 wr => Below B w wr ∧ ∃ (i : Nat) (done : Bool) (out : List ByteArray), gk = n + 1 - i ∧ i ≤ n ∧ v7 = .int .i64 i ∧ v6 = .bool done ∧ wr.ownsRow B 9 1 v5 out.length (out.map Value.string) ∧ out.length ≤ 2 * i + 1 ∧ Hid (out.map btsOf ++ restT (btsOf s) done ((l.drop i).map btsOf) = putT (btsOf s) (l.map btsOf)))
  case atStart => exact ⟨Below.refl _ _, 0, false, [], rfl, Nat.zero_le _, rfl, rfl, World.ownsRow_nil _ _ _ _, by simp, Lib.hid rfl⟩
  case round =>
    obtain ⟨hb, i, done, out, rfl, hin, rfl, rfl, how, hol, hrest⟩ := hrel
    have HBR := Lib.hid hb
    have HOW := Lib.hid how
    have HBS : Hid (B ≤ wr.heap.size) := Lib.hid (by have := hb.size; rw [HB.out]; exact this)
    obtain ⟨lv, ln, lc, rfl⟩ := slice_form how
    clear hb how
    by_cases hlt : i < n
    · rcases hat with h0 | ⟨b, off, rfl, hbb, hc⟩
      · omega
      have hii : (i : Int) < (n : Int) := by omega
      have c1 := (HBR.out.cell (p := ⟨b, off + i, none⟩) hbb).trans (hc i hlt)
      obtain ⟨x, hx⟩ : ∃ x, x = l.getD i ⟨#[]⟩ := ⟨_, rfl⟩
      rw [← hx] at c1
      have HDR : Hid ((l.drop i).map btsOf = btsOf x :: (l.drop (i + 1)).map btsOf) := Lib.hid (by
        have hil : i < l.length := by rw [HNL.out]; exact hlt
        rw [hx, List.getD_eq_getElem?_getD, List.getElem?_eq_getElem hil, List.drop_eq_getElem_cons hil]; rfl)
      have HC := Lib.hid hc
      have HBB := Lib.hid hbb
      clear hx hc hbb
      have hless : Op.bytesLess x.toList s.toList = decide (btsOf x < btsOf s) := by
        rw [bytesLess_eq, ByteArray.toList_eq, ByteArray.toList_eq]; rfl
      have heqb : (x.toList == s.toList) = decide (btsOf x = btsOf s) := by
        rw [ByteArray.toList_eq, ByteArray.toList_eq, Bool.eq_iff_iff]; simp [btsOf]
      rw [HDR.out] at hrest
      cases done with
      | false =>
        by_cases hxs : btsOf x < btsOf s
        · have hlt1 : Op.bytesLess x.toList s.toList = true := by rw [hless]; exact decide_eq_true hxs
          have hne : (x.toList == s.toList) = false := by rw [heqb]; exact decide_eq_false (fun e => bt_irr _ (e ▸ hxs))
          have HREST : Hid ((out ++ [x]).map btsOf ++ restT (btsOf s) false ((l.drop (i + 1)).map btsOf) = putT (btsOf s) (l.map btsOf)) := Lib.hid (by
            rw [← hrest.out, restT_lt hxs]; simp)
          clear hless heqb hrest hxs
          go_wp2_with (at_builtin; go_must (refine wpList_append_lies _ rfl (.tmp 34) (.tmp 39) 22 rfl B 9 i0 (.string ByteArray.empty) 1 16 Try.underlying22 HI.out HZ0.out HZ1.out HZ2.out rfl (by omega) _ out.length (out.map Value.string) rfl (HOW.out.alloc _) ⟨wr.heap.size, 0, none⟩ 1 1 [.string x] rfl rfl ?a1 ?a2 ?a3 ?a4 ?a5 ?a6 _ rfl ?a7))
          try (case a1 => (intro j u hj; rw [Addr.add_mid]; exact (Has.new wr [.string x] _).cellAt (by rw [Nat.zero_add]; exact hj)))
          try (case a2 => first | rfl | (intro u hu; simp only [List.mem_cons, List.not_mem_nil, or_false] at hu; rcases hu with rfl; rfl))
          try (case a3 => omega)
          try (case a4 => (unfold maxLen; omega))
          try (case a5 => omega)
          try (case a6 => (have := HBS.out; first | omega | (simp; omega)))
          intro g1 cap1 w1 hown hgrow hat hlt2
          have HB1 : Hid (Below B w w1) := Lib.hid ((HBR.out.alloc HBS.out _).grown hgrow (by have := HBS.out; simp; omega) (fun k hk => (HOW.out.lt k hk).1))
          have HO1 : Hid (w1.ownsRow B 9 1 (.slice (some ⟨g1, 0, none⟩) (out.length + 1) cap1) (out.length + 1) ((out ++ [x]).map Value.string)) := Lib.hid (by first | (rw [List.map_append]; exact hown) | simpa using hown)
          have HBS1 : Hid (B ≤ w1.heap.size) := Lib.hid (by have := HB1.out.size; rw [HB.out]; exact this)
          clear hown hgrow hat hlt2
          go_wp2_with fail
          go_roundg (n + 1 - (i + 1))
          case rel => exact ⟨HB1.out, i + 1, false, out ++ [x], rfl, by omega, by go_num, rfl, by rw [List.length_append]; exact HO1.out, by simp; omega, HREST⟩
          case measure => omega
        · have hlt1 : Op.bytesLess x.toList s.toList = false := by rw [hless]; exact decide_eq_false hxs
          have HR1 : Hid ((out ++ [s]).map btsOf ++ restT (btsOf s) true (btsOf x :: (l.drop (i + 1)).map btsOf) = putT (btsOf s) (l.map btsOf)) := Lib.hid (by
            rw [← hrest.out, restT_ge hxs]; simp)
          clear hless hrest hxs
          go_wp2_with (at_builtin; go_must (refine wpList_append_lies _ rfl (.tmp 24) (.tmp 26) 22 rfl B 9 i0 (.string ByteArray.empty) 1 16 Try.underlying22 HI.out HZ0.out HZ1.out HZ2.out rfl (by omega) _ out.length (out.map Value.string) rfl (HOW.out.alloc _) ⟨wr.heap.size, 0, none⟩ 1 1 [.string s] rfl rfl ?b1 ?b2 ?b3 ?b4 ?b5 ?b6 _ rfl ?b7))
          try (case b1 => (intro j u hj; rw [Addr.add_mid]; exact (Has.new wr [.string s] _).cellAt (by rw [Nat.zero_add]; exact hj)))
          try (case b2 => first | rfl | (intro u hu; simp only [List.mem_cons, List.not_mem_nil, or_false] at hu; rcases hu with rfl; rfl))
          try (case b3 => omega)
          try (case b4 => (unfold maxLen; omega))
          try (case b5 => omega)
          try (case b6 => (have := HBS.out; first | omega | (simp; omega)))
          intro g2 cap2 w2 hown hgrow hat hlt2
          have HB2 : Hid (Below B w w2) := Lib.hid ((HBR.out.alloc HBS.out _).grown hgrow (by have := HBS.out; simp; omega) (fun k hk => (HOW.out.lt k hk).1))
          have HO2 : Hid (w2.ownsRow B 9 1 (.slice (some ⟨g2, 0, none⟩) (out.length + 1) cap2) (out.length + 1) ((out ++ [s]).map Value.string)) := Lib.hid (by first | (rw [List.map_append]; exact hown) | simpa using hown)
          have HBS2 : Hid (B ≤ w2.heap.size) := Lib.hid (by have := HB2.out.size; rw [HB.out]; exact this)
          clear hown hgrow hat hlt2
          have d1 := (HB2.out.cell (p := ⟨b, off + i, none⟩) HBB.out).trans (HC.out i hlt)
          obtain ⟨x', hx'⟩ : ∃ x', x' = l.getD i ⟨#[]⟩ := ⟨_, rfl⟩
          rw [← hx'] at d1
          have hxx : x' = x := by
            have h1 := (HBR.out.cell (p := ⟨b, off + i, none⟩) HBB.out).trans (HC.out i hlt)
            rw [c1, ← hx'] at h1
            injection h1 with h1; injection h1 with h1; exact h1.symm
          subst hxx
          clear c1 hx'
          by_cases hxe : btsOf x' = btsOf s
          · have hne : (x'.toList == s.toList) = true := by rw [heqb]; exact decide_eq_true hxe
            have HREST : Hid ((out ++ [s]).map btsOf ++ restT (btsOf s) true ((l.drop (i + 1)).map btsOf) = putT (btsOf s) (l.map btsOf)) := Lib.hid (by
              rw [← HR1.out, restT_eq hxe])
            clear heqb hxe
            go_wp2_with fail
            go_roundg (n + 1 - (i + 1))
            case rel => exact ⟨HB2.out, i + 1, true, out ++ [s], rfl, by omega, by go_num, rfl, by rw [List.length_append]; exact HO2.out, by simp; omega, HREST⟩
            case measure => omega
          · have hne : (x'.toList == s.toList) = false := by rw [heqb]; exact decide_eq_false hxe
            have HREST : Hid ((out ++ [s] ++ [x']).map btsOf ++ restT (btsOf s) true ((l.drop (i + 1)).map btsOf) = putT (btsOf s) (l.map btsOf)) := Lib.hid (by
              rw [← HR1.out, restT_ne hxe]; simp)
            clear heqb hxe
            go_wp2_with (at_builtin; go_must (refine wpList_append_lies _ rfl (.tmp 34) (.tmp 39) 22 rfl B 9 i0 (.string ByteArray.empty) 1 16 Try.underlying22 HI.out HZ0.out HZ1.out HZ2.out rfl (by omega) _ (out.length + 1) ((out ++ [s]).map Value.string) rfl (HO2.out.alloc _) ⟨w2.heap.size, 0, none⟩ 1 1 [.string x'] rfl rfl ?f1 ?f2 ?f3 ?f4 ?f5 ?f6 _ rfl ?f7))
            try (case f1 => (intro j u hj; rw [Addr.add_mid]; exact (Has.new w2 [.string x'] _).cellAt (by rw [Nat.zero_add]; exact hj)))
            try (case f2 => first | rfl | (intro u hu; simp only [List.mem_cons, List.not_mem_nil, or_false] at hu; rcases hu with rfl; rfl))
            try (case f3 => omega)
            try (case f4 => (unfold maxLen; omega))
            try (case f5 => omega)
            try (case f6 => (have := HBS2.out; first | omega | (simp; omega)))
            intro g3 cap3 w3 hown hgrow hat hlt2
            have HB3 : Hid (Below B w w3) := Lib.hid ((HB2.out.alloc HBS2.out _).grown hgrow (by have := HBS2.out; simp; omega) (fun k hk => (HO2.out.lt k hk).1))
            have HO3 : Hid (w3.ownsRow B 9 1 (.slice (some ⟨g3, 0, none⟩) ((out.length + 1) + 1) cap3) ((out.length + 1) + 1) ((out ++ [s] ++ [x']).map Value.string)) := Lib.hid (by first | (rw [List.map_append]; exact hown) | simpa using hown)
            have HBS3 : Hid (B ≤ w3.heap.size) := Lib.hid (by have := HB3.out.size; rw [HB.out]; exact this)
            clear hown hgrow hat hlt2
            go_wp2_with fail
            go_roundg (n + 1 - (i + 1))
            case rel => exact ⟨HB3.out, i + 1, true, out ++ [s] ++ [x'], rfl, by omega, by go_num, rfl, by simpa using HO3.out, by simp; omega, HREST⟩
            case measure => omega
      | true =>
        by_cases hxe : btsOf x = btsOf s
        · have hne : (x.toList == s.toList) = true := by rw [heqb]; exact decide_eq_true hxe
          have HREST : Hid (out.map btsOf ++ restT (btsOf s) true ((l.drop (i + 1)).map btsOf) = putT (btsOf s) (l.map btsOf)) := Lib.hid (by
            rw [← hrest.out, restT_eq hxe])
          clear hless heqb hxe hrest
          go_wp2_with fail
          go_roundg (n + 1 - (i + 1))
          case rel => exact ⟨HBR.out, i + 1, true, out, rfl, by omega, by go_num, rfl, HOW.out, by omega, HREST⟩
          case measure => omega
        · have hne : (x.toList == s.toList) = false := by rw [heqb]; exact decide_eq_false hxe
          have HREST : Hid ((out ++ [x]).map btsOf ++ restT (btsOf s) true ((l.drop (i + 1)).map btsOf) = putT (btsOf s) (l.map btsOf)) := Lib.hid (by
            rw [← hrest.out, restT_ne hxe]; simp)
          clear hless heqb hxe hrest
          go_wp2_with (at_builtin; go_must (refine wpList_append_lies _ rfl (.tmp 34) (.tmp 39) 22 rfl B 9 i0 (.string ByteArray.empty) 1 16 Try.underlying22 HI.out HZ0.out HZ1.out HZ2.out rfl (by omega) _ out.length (out.map Value.string) rfl (HOW.out.alloc _) ⟨wr.heap.size, 0, none⟩ 1 1 [.string x] rfl rfl ?d1 ?d2 ?d3 ?d4 ?d5 ?d6 _ rfl ?d7))
          try (case d1 => (intro j u hj; rw [Addr.add_mid]; exact (Has.new wr [.string x] _).cellAt (by rw [Nat.zero_add]; exact hj)))
          try (case d2 => first | rfl | (intro u hu; simp only [List.mem_cons, List.not_mem_nil, or_false] at hu; rcases hu with rfl; rfl))
          try (case d3 => omega)
          try (case d4 => (unfold maxLen; omega))
          try (case d5 => omega)
          try (case d6 => (have := HBS.out; first | omega | (simp; omega)))
          intro g4 cap4 w4 hown hgrow hat hlt2
          have HB4 : Hid (Below B w w4) := Lib.hid ((HBR.out.alloc HBS.out _).grown hgrow (by have := HBS.out; simp; omega) (fun k hk => (HOW.out.lt k hk).1))
          have HO4 : Hid (w4.ownsRow B 9 1 (.slice (some ⟨g4, 0, none⟩) (out.length + 1) cap4) (out.length + 1) ((out ++ [x]).map Value.string)) := Lib.hid (by first | (rw [List.map_append]; exact hown) | simpa using hown)
          have HBS4 : Hid (B ≤ w4.heap.size) := Lib.hid (by have := HB4.out.size; rw [HB.out]; exact this)
          clear hown hgrow hat hlt2
          go_wp2_with fail
          go_roundg (n + 1 - (i + 1))
          case rel => exact ⟨HB4.out, i + 1, true, out ++ [x], rfl, by omega, by go_num, rfl, by rw [List.length_append]; exact HO4.out, by simp; omega, HREST⟩
          case measure => omega
    · obtain rfl : i = n := by omega
      have hii : ¬ (i : Int) < (i : Int) := by omega
      have hdn : l.drop i = [] := List.drop_of_length_le (by rw [HNL.out]; exact Nat.le_refl _)
      rw [hdn] at hrest
      clear hat hdn
      cases done with
      | true =>
        have HE : Hid (out.map btsOf = putT (btsOf s) (l.map btsOf)) := Lib.hid (by rw [← hrest.out]; simp [restT])
        clear hrest
        go_wp2_with fail
        go_ret
        exact ⟨_, rfl, out, HE.out, by rw [← HB.out]; exact HOW.out, by rw [← HB.out]; exact HBR.out⟩
      | false =>
        have HE : Hid ((out ++ [s]).map btsOf = putT (btsOf s) (l.map btsOf)) := Lib.hid (by rw [← hrest.out]; simp [restT, putT])
        clear hrest
        go_wp2_with (at_builtin; go_must (refine wpList_append_lies _ rfl (.tmp 43) (.tmp 45) 22 rfl B 9 i0 (.string ByteArray.empty) 1 16 Try.underlying22 HI.out HZ0.out HZ1.out HZ2.out rfl (by omega) _ out.length (out.map Value.string) rfl (HOW.out.alloc _) ⟨wr.heap.size, 0, none⟩ 1 1 [.string s] rfl rfl ?e1 ?e2 ?e3 ?e4 ?e5 ?e6 _ rfl ?e7))
        try (case e1 => (intro j u hj; rw [Addr.add_mid]; exact (Has.new wr [.string s] _).cellAt (by rw [Nat.zero_add]; exact hj)))
        try (case e2 => first | rfl | (intro u hu; simp only [List.mem_cons, List.not_mem_nil, or_false] at hu; rcases hu with rfl; rfl))
        try (case e3 => omega)
        try (case e4 => (unfold maxLen; omega))
        try (case e5 => omega)
        try (case e6 => (have := HBS.out; first | omega | (simp; omega)))
        intro g1 cap1 w1 hown hgrow hat hlt2
        have HB1 : Hid (Below B w w1) := Lib.hid ((HBR.out.alloc HBS.out _).grown hgrow (by have := HBS.out; simp; omega) (fun k hk => (HOW.out.lt k hk).1))
        have HO1 : Hid (w1.ownsRow B 9 1 (.slice (some ⟨g1, 0, none⟩) (out.length + 1) cap1) (out.length + 1) ((out ++ [s]).map Value.string)) := Lib.hid (by first | (rw [List.map_append]; exact hown) | simpa using hown)
        have HBS1 : Hid (B ≤ w1.heap.size) := Lib.hid (by have := HB1.out.size; rw [HB.out]; exact this)
        clear hown hgrow hat hlt2
        go_wp2_with fail
        go_ret
        exact ⟨_, out ++ [s], rfl, HE.out, by rw [← HB.out, List.length_append]; exact HO1.out, by rw [← HB.out]; exact HB1.out⟩

end Go.Proofs.Ytdliecailkkciaa
