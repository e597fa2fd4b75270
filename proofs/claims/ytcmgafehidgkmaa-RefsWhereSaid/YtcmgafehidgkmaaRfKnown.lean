/-
  The contracts of the reference's Is and known. Conditions: bounds on the lengths.
-/
import Derived.Test.YtcmgafehidgkmaaRfAns
import Derived.Test.YtcmgafehidgkmaaRParse
import Derived.Deep.RegionHeld3
namespace Go.Proofs.Ytcmgafehidgkmaa
open Go.RowKit
set_option linter.unusedVariables false

theorem rparse_form {o : Option (List UInt8 × List UInt8)} {w w' : World} {e : Ending} (h : Nam.RParsePost o w e w') :
    ∃ (D : List UInt8) (n : ByteArray), e = .returned (.tuple #[.agg (D.map Nam.bv).toArray, .string n, .bool o.isSome]) ∧ D.length = 20 := by
  obtain ⟨hs, hn, _⟩ := h
  cases o with
  | none => exact ⟨Nam.zU, _, hn rfl, rfl⟩
  | some q =>
    obtain ⟨d, m⟩ := q
    obtain ⟨hd, he⟩ := hs d m rfl
    exact ⟨d, _, he, hd⟩

set_option maxRecDepth 100000 in
set_option maxHeartbeats 4000000 in
theorem ris_any (s : ByteArray) (w : World) (hm : s.size ≤ 140737488355328) :
    Calls Try.prog 33 #[.string s] w fun e w' => e = .returned (.bool (isP (btsOf s))) ∧ Below w.heap.size w w' := by
  obtain ⟨O, hO⟩ : ∃ O, O = Nam.parseP s.data.toList := ⟨_, rfl⟩
  have HO := Lib.hid hO
  have HP : Hid (isP (btsOf s) = O.isSome) := Lib.hid (by rw [hO]; rfl)
  clear hO
  go_enter Try.func33, Try.ntmps33
  go_wp2_with fail
  refine (Nam.rparse_any s _ hm).mono ?_
  rintro e w1 hq
  have b1 := hq.2.2
  obtain ⟨D, n, rfl, hD⟩ := rparse_form hq
  rw [← HO.out]
  have hc := Nam.c20 D hD
  obtain ⟨C, hC⟩ : ∃ C, C = (D.map Nam.bv).toArray := ⟨_, rfl⟩
  rw [← hC] at hc ⊢
  obtain ⟨r, hr⟩ : ∃ r, r = O.isSome := ⟨_, rfl⟩
  have HR := Lib.hid hr
  rw [← hr]
  have I1 := Lib.hid hc.info
  have I2 := Lib.hid hc.size
  have I3 := Lib.hid hc.one
  have B1 := Lib.hid b1
  clear hq hC hc b1 hr hD
  go_wp2_with (refine wpList_store_row rfl 38 _ _ rfl w1.heap.size C rfl rfl 38 _ (heap_alloc_new w1 _) I1.out I2.out.symm I3.out ?_)
  go_ret
  exact ⟨by rw [HP.out, ← HR.out]; rfl, below_setRow (B1.out.alloc B1.out.size _) B1.out.size _⟩

theorem filter_drop {p : Bts → Bool} {l : List ByteArray} {i : Nat} (h : i < l.length) : ((l.drop i).map btsOf).filter p = if p (btsOf (l.getD i ⟨#[]⟩)) = true then btsOf (l.getD i ⟨#[]⟩) :: ((l.drop (i + 1)).map btsOf).filter p else ((l.drop (i + 1)).map btsOf).filter p := by
  rw [List.drop_eq_getElem_cons h, List.map_cons, List.filter_cons, List.getD_eq_getElem?_getD, List.getElem?_eq_getElem h]; rfl
/-- The last one's digest. -/
def lastK (out : List ByteArray) : Option Bts := out.getLast?.map keyB
theorem lastK_nil : lastK [] = none := rfl
theorem lastK_snoc (out : List ByteArray) (x : ByteArray) : lastK (out ++ [x]) = some (keyB x) := by unfold lastK; rw [List.getLast?_concat]; rfl

set_option maxRecDepth 100000 in
set_option maxHeartbeats 8000000 in
theorem known_any (a : Option Addr) (n cap : Nat) (l : List ByteArray) (w : World) (hS : IsS w a n cap l) (hn : n ≤ 1000) (hsz : ∀ x ∈ l, x.size ≤ 140737488355328) :
    Calls Try.prog 24 #[.slice a n cap] w fun e w' => ∃ (v : Value) (out : List ByteArray), e = .returned v ∧ out.map btsOf = first2 keyT none ((sortT (l.map btsOf)).filter isP) ∧ w'.ownsRow w.heap.size 9 1 v out.length (out.map Value.string) ∧ out.length ≤ n ∧ (∀ y ∈ out, 32 ≤ y.size) ∧ Below w.heap.size w w' := by
  obtain ⟨i0, hi, hz0, hz1, hz2⟩ := info_parts info_str
  have HI := Lib.hid hi
  have HZ0 := Lib.hid hz0
  have HZ1 := Lib.hid hz1
  have HZ2 := Lib.hid hz2
  have HSZ := Lib.hid hsz
  have HS := Lib.hid hS
  clear hi hz0 hz1 hz2 hsz hS
  go_enter Try.func24, Try.ntmps24
  go_wp2_with fail
  refine (rsort_any a n cap l w HS.out hn).mono ?_
  rintro e w1 ⟨v1, so, rfl, hso, ho1, hsl, hb1⟩
  obtain ⟨sa, sc, rfl, hs1, _⟩ := isS_of_owns ho1
  have HSO := Lib.hid hso
  have HS1 := Lib.hid hs1
  have HB1 := Lib.hid hb1
  have HSM : Hid (∀ i, i < so.length → (so.getD i ⟨#[]⟩).size ≤ 140737488355328) := Lib.hid (fun i hi => by
    have hm : btsOf (so.getD i ⟨#[]⟩) ∈ so.map btsOf := by
      rw [List.getD_eq_getElem?_getD, List.getElem?_eq_getElem hi]; exact List.mem_map_of_mem (List.getElem_mem hi)
    rw [hso, sortT_mem] at hm
    obtain ⟨x, hx, e⟩ := List.mem_map.1 hm
    have h1 := HSZ.out x hx
    have h2 := congrArg List.length e
    unfold btsOf at h2
    simp only [Array.length_toList, ByteArray.size_data] at h2
    omega)
  obtain ⟨m, hm⟩ : ∃ m, m = so.length := ⟨_, rfl⟩
  rw [← hm]
  rw [← hm] at HS1 HSM hsl
  have HML := Lib.hid hm
  have hat := hs1.at_
  rw [← hm] at hat
  clear hso ho1 hs1 hb1 hm
  go_wp2_with fail
  obtain ⟨B0, hB⟩ : ∃ B0, B0 = w1.heap.size := ⟨_, rfl⟩
  have HB := Lib.hid hB
  clear hB
  go_loopg [4, 5] (m + 1) (fun gk v4 v5 wr => Below B0 w1 wr ∧ ∃ (i : Nat) (out : List ByteArray), gk = m + 1 - i ∧ i ≤ m ∧ v5 = .int .i64 i ∧ wr.ownsRow B0 9 1 v4 out.length (out.map Value.string) ∧ out.length ≤ i ∧ Hid (out.map btsOf ++ first2 keyT (lastK out) (((so.drop i).map btsOf).filter isP) = first2 keyT none ((so.map btsOf).filter isP)) ∧ Hid (∀ y ∈ out, 32 ≤ y.size))
  case atStart => exact ⟨Below.refl _ _, 0, [], rfl, Nat.zero_le _, rfl, World.ownsRow_nil _ _ _ _, by simp, Lib.hid rfl, Lib.hid (fun y hy => by cases hy)⟩
  case round =>
    obtain ⟨hb, i, out, rfl, hin, rfl, how, hol, hrest, h32⟩ := hrel
    have HBR := Lib.hid hb
    have HOW := Lib.hid how
    have HBS : Hid (B0 ≤ wr.heap.size) := Lib.hid (by have := hb.size; rw [HB.out]; exact this)
    obtain ⟨ov, oc, rfl⟩ := row_form2 how
    clear hb how
    by_cases hlt : i < m
    · rcases hat with h0 | ⟨b, off, rfl, hbb, hc⟩
      · omega
      have hii : (i : Int) < (m : Int) := by omega
      have HBB := Lib.hid hbb
      have HC := Lib.hid hc
      obtain ⟨x, hx⟩ : ∃ x, x = so.getD i ⟨#[]⟩ := ⟨_, rfl⟩
      have c1 : wr.cell? ⟨b, off + i, none⟩ = some (.string x) := by
        rw [hx]; exact (HBR.out.cell (p := ⟨b, off + i, none⟩) (by rw [HB.out]; exact hbb)).trans (hc i hlt)
      have hxs : x.size ≤ 140737488355328 := by rw [hx]; exact HSM.out i hlt
      have hfd := filter_drop (p := isP) (l := so) (i := i) (by rw [← HML.out]; exact hlt)
      rw [← hx] at hfd
      have HFD := Lib.hid hfd
      clear hx hc hbb hfd
      go_wp2_with fail
      refine (ris_any x wr hxs).mono ?_
      rintro e w2 ⟨rfl, hb2⟩
      have HB2 : Hid (Below B0 w1 w2) := Lib.hid (HBR.out.trans (hb2.mono HBS.out))
      have HO2 : Hid (w2.ownsRow B0 9 1 (.slice ov out.length oc) out.length (out.map Value.string)) := Lib.hid (HOW.out.kept (row := none) (grown_of_below hb2 none) (by
        cases ov with
        | none => left; rfl
        | some q => right; simp [Value.ownBlock]))
      have HBS2 : Hid (B0 ≤ w2.heap.size) := Lib.hid (Nat.le_trans HBS.out hb2.size)
      have c2 : w2.cell? ⟨b, off + i, none⟩ = some (.string x) := (HB2.out.cell (p := ⟨b, off + i, none⟩) (by rw [HB.out]; exact HBB.out)).trans (by
        have h := (HBR.out.cell (p := ⟨b, off + i, none⟩) (by rw [HB.out]; exact HBB.out))
        rw [← h]; exact c1)
      clear hb2 c1
      cases hp : isP (btsOf x) with
      | false =>
        have HREST : Hid (out.map btsOf ++ first2 keyT (lastK out) (((so.drop (i + 1)).map btsOf).filter isP) = first2 keyT none ((so.map btsOf).filter isP)) := Lib.hid (by
          have h := HFD.out
          rw [hp, if_neg (by decide)] at h
          rw [← h]; exact hrest.out)
        clear hp
        go_wp2_with fail
        go_roundg (m + 1 - (i + 1))
        case rel => exact ⟨HB2.out, i + 1, out, rfl, by omega, by go_num, HO2.out, by omega, HREST, h32⟩
        case measure => omega
      | true =>
        have hx32 : 32 ≤ x.size := by
          have h := parse_len hp
          have e : (btsOf x).length = x.size := by simp [btsOf]
          omega
        have hx32' : (32 : Int) ≤ (x.size : Int) := by omega
        have H32 : Hid (∀ y ∈ out ++ [x], 32 ≤ y.size) := Lib.hid (fun y hy => by
          rcases List.mem_append.1 hy with hy | hy
          · exact h32.out y hy
          · rw [List.mem_singleton.1 hy]; exact hx32)
        have hfd := HFD.out
        rw [hp, if_pos rfl] at hfd
        rw [hfd] at hrest
        have HR := Lib.hid hrest.out
        rw [first2] at HR
        clear hp hfd hrest
        by_cases h0 : out.length = 0
        · obtain rfl : out = [] := List.length_eq_zero_iff.1 h0
          have HREST : Hid (([] ++ [x]).map btsOf ++ first2 keyT (lastK ([] ++ [x])) (((so.drop (i + 1)).map btsOf).filter isP) = first2 keyT none ((so.map btsOf).filter isP)) := Lib.hid (by
            have h := HR.out
            rw [if_neg (by rw [lastK_nil]; intro e; cases e)] at h
            rw [lastK_snoc]
            exact h)
          clear HR
          go_wp2_with fail
          go_quiet (fail)
          obtain ⟨w3, hw3⟩ : ∃ w3, w3 = w2.drewN nq := ⟨_, rfl⟩
          rw [← hw3]
          have HB3 : Hid (Below B0 w1 w3) := Lib.hid (by rw [hw3]; exact below_rf HB2.out nq)
          have HO3 : Hid (w3.ownsRow B0 9 1 (.slice ov 0 oc) 0 (([] : List ByteArray).map Value.string)) := Lib.hid (by rw [hw3]; exact HO2.out)
          have HBS3 : Hid (B0 ≤ w3.heap.size) := Lib.hid (by rw [hw3]; exact HBS2.out)
          have c3 : w3.cell? ⟨b, off + i, none⟩ = some (.string x) := by rw [hw3]; exact c2
          clear hw3 c2 HB2 HO2 HBS2
          go_wp2_with (at_builtin; go_must (refine wpList_append_lies _ rfl (.tmp 38) (.tmp 43) 23 rfl B0 9 i0 (.string ByteArray.empty) 1 16 Try.underlying23 HI.out HZ0.out HZ1.out HZ2.out rfl (by omega) _ 0 (([] : List ByteArray).map Value.string) rfl (HO3.out.alloc _) ⟨w3.heap.size, 0, none⟩ 1 1 [.string x] rfl rfl ?a1 ?a2 ?a3 ?a4 ?a5 ?a6 _ rfl ?a7))
          try (case a1 => (intro j u hj; rw [Addr.add_mid]; exact (Has.new w3 [.string x] _).cellAt (by rw [Nat.zero_add]; exact hj)))
          try (case a2 => first | rfl | (intro u hu; simp only [List.mem_cons, List.not_mem_nil, or_false] at hu; rcases hu with rfl; rfl))
          try (case a3 => omega)
          try (case a4 => (unfold maxLen; omega))
          try (case a5 => omega)
          try (case a6 => (have := HBS3.out; first | omega | (simp; omega)))
          intro g1 cap1 w4 hown hgrow hat2 hlt2
          have HB4 : Hid (Below B0 w1 w4) := Lib.hid ((HB3.out.alloc HBS3.out _).grown hgrow (by have := HBS3.out; simp; omega) (fun k hk => (HO3.out.lt k hk).1))
          have HO4 : Hid (w4.ownsRow B0 9 1 (.slice (some ⟨g1, 0, none⟩) (0 + 1) cap1) (0 + 1) (([] ++ [x]).map Value.string)) := Lib.hid (by first | (rw [List.map_append]; exact hown) | simpa using hown)
          clear hown hgrow hat2 hlt2
          go_wp2_with fail
          go_roundg (m + 1 - (i + 1))
          case rel => exact ⟨HB4.out, i + 1, [] ++ [x], rfl, by omega, by go_num, by rw [List.length_append]; exact HO4.out, by simp only [List.length_append, List.length_cons, List.length_nil]; omega, HREST, H32⟩
          case measure => omega
        · obtain ⟨g, gc, hg, _, _⟩ := HO2.out.form (by omega)
          have hov : ov = some ⟨g, 0, none⟩ := by injection hg
          have hoc : oc = gc := by injection hg
          subst hov
          subst hoc
          obtain ⟨y, hy⟩ : ∃ y, y = out.getD (out.length - 1) ⟨#[]⟩ := ⟨_, rfl⟩
          have hyl : out.length - 1 < out.length := by omega
          have hym : y ∈ out := by rw [hy, List.getD_eq_getElem?_getD, List.getElem?_eq_getElem hyl]; exact List.getElem_mem hyl
          have hlk : lastK out = some (keyB y) := by
            unfold lastK
            rw [List.getLast?_eq_getElem?, List.getElem?_eq_getElem hyl, hy, List.getD_eq_getElem?_getD, List.getElem?_eq_getElem hyl]; rfl
          have hy32 := h32.out y hym
          have hy32' : (32 : Int) ≤ (y.size : Int) := by omega
          have cy : w2.cell? ⟨g, out.length - 1, none⟩ = some (.string y) := by
            rw [HO2.out.cellAt (out.length - 1) (by omega), hy, List.getElem?_map, List.getElem?_eq_getElem hyl, List.getD_eq_getElem?_getD, List.getElem?_eq_getElem hyl]; rfl
          have z1 : (0 : Int) < (out.length : Int) := by omega
          have z2 : (1 : Int) ≤ (out.length : Int) := by omega
          have z3 : 1 ≤ out.length := by omega
          have z0 : 0 < out.length := by omega
          have z4 : ((out.length : Int) - 1).toNat = out.length - 1 := by omega
          have z5 : (out.length : Int) - 1 < (out.length : Int) := by omega
          have z6 : (0 : Int) ≤ (out.length : Int) - 1 := by omega
          have w1' : IntKind.i64.wrap ((out.length : Int) - 1) = (out.length : Int) - 1 := IntWalk.i64_in _ (by omega)
          rw [hlk] at HR
          have hkx : (x.extract 0 32).toList = keyB x := by rw [ByteArray.toList_eq, Nam.ext_data]; simp [keyB]
          have hky : (y.extract 0 32).toList = keyB y := by rw [ByteArray.toList_eq, Nam.ext_data]; simp [keyB]
          have HOY : Hid (lastK out = some (keyB y)) := Lib.hid hlk
          by_cases hk : keyB y = keyB x
          · have hcmp : ((y.extract 0 32).toList == (x.extract 0 32).toList) = true := by rw [hkx, hky, hk]; simp
            have HREST : Hid (out.map btsOf ++ first2 keyT (lastK out) (((so.drop (i + 1)).map btsOf).filter isP) = first2 keyT none ((so.map btsOf).filter isP)) := Lib.hid (by
              have h := HR.out
              rw [if_pos (by rw [hk]; rfl)] at h
              rw [HOY.out]; exact h)
            clear hkx hky hk HR hlk hy hg
            go_wp2_with fail
            go_quiet (fail)
            go_wp2_with fail
            go_roundg (m + 1 - (i + 1))
            case rel => exact ⟨below_rf HB2.out _, i + 1, out, rfl, by omega, by go_num, HO2.out, by omega, HREST, h32⟩
            case measure => omega
          · have hcmp : ((y.extract 0 32).toList == (x.extract 0 32).toList) = false := by rw [hkx, hky]; simpa using hk
            have HREST : Hid ((out ++ [x]).map btsOf ++ first2 keyT (lastK (out ++ [x])) (((so.drop (i + 1)).map btsOf).filter isP) = first2 keyT none ((so.map btsOf).filter isP)) := Lib.hid (by
              have h := HR.out
              rw [if_neg (show ¬ some (keyB y) = some (keyT (btsOf x)) from fun e => hk (Option.some.inj e))] at h
              rw [lastK_snoc, List.map_append, List.append_assoc]
              exact h)
            clear hkx hky hk HR hlk hy hg
            go_wp2_with fail
            go_quiet (fail)
            obtain ⟨w3, hw3⟩ : ∃ w3, w3 = w2.drewN nq := ⟨_, rfl⟩
            rw [← hw3]
            have HB3 : Hid (Below B0 w1 w3) := Lib.hid (by rw [hw3]; exact below_rf HB2.out nq)
            have HO3 : Hid (w3.ownsRow B0 9 1 (.slice (some ⟨g, 0, none⟩) out.length oc) out.length (out.map Value.string)) := Lib.hid (by rw [hw3]; exact HO2.out)
            have HBS3 : Hid (B0 ≤ w3.heap.size) := Lib.hid (by rw [hw3]; exact HBS2.out)
            have c3 : w3.cell? ⟨b, off + i, none⟩ = some (.string x) := by rw [hw3]; exact c2
            clear hw3 cy c2 HB2 HO2 HBS2
            go_wp2_with (at_builtin; go_must (refine wpList_append_lies _ rfl (.tmp 38) (.tmp 43) 23 rfl B0 9 i0 (.string ByteArray.empty) 1 16 Try.underlying23 HI.out HZ0.out HZ1.out HZ2.out rfl (by omega) _ out.length (out.map Value.string) rfl (HO3.out.alloc _) ⟨w3.heap.size, 0, none⟩ 1 1 [.string x] rfl rfl ?b1 ?b2 ?b3 ?b4 ?b5 ?b6 _ rfl ?b7))
            try (case b1 => (intro j u hj; rw [Addr.add_mid]; exact (Has.new w3 [.string x] _).cellAt (by rw [Nat.zero_add]; exact hj)))
            try (case b2 => first | rfl | (intro u hu; simp only [List.mem_cons, List.not_mem_nil, or_false] at hu; rcases hu with rfl; rfl))
            try (case b3 => omega)
            try (case b4 => (unfold maxLen; omega))
            try (case b5 => omega)
            try (case b6 => (have := HBS3.out; first | omega | (simp; omega)))
            intro g1 cap1 w4 hown hgrow hat2 hlt2
            have HB4 : Hid (Below B0 w1 w4) := Lib.hid ((HB3.out.alloc HBS3.out _).grown hgrow (by have := HBS3.out; simp; omega) (fun k hk => (HO3.out.lt k hk).1))
            have HO4 : Hid (w4.ownsRow B0 9 1 (.slice (some ⟨g1, 0, none⟩) (out.length + 1) cap1) (out.length + 1) ((out ++ [x]).map Value.string)) := Lib.hid (by first | (rw [List.map_append]; exact hown) | simpa using hown)
            clear hown hgrow hat2 hlt2
            go_wp2_with fail
            go_roundg (m + 1 - (i + 1))
            case rel => exact ⟨HB4.out, i + 1, out ++ [x], rfl, by omega, by go_num, by rw [List.length_append]; exact HO4.out, by simp only [List.length_append, List.length_cons, List.length_nil]; omega, HREST, H32⟩
            case measure => omega
    · obtain rfl : i = m := by omega
      have hii : ¬ (i : Int) < (i : Int) := by omega
      have hdn : so.drop i = [] := List.drop_of_length_le (by rw [HML.out]; exact Nat.le_refl _)
      have HE : Hid (out.map btsOf = first2 keyT none ((so.map btsOf).filter isP)) := Lib.hid (by
        have h := hrest.out
        rw [hdn] at h
        simpa [first2] using h)
      clear hat hdn hrest
      go_wp2_with fail
      go_ret
      exact ⟨_, rfl, out, by rw [HE.out, HSO.out], owns_lower HOW.out (by rw [HB.out]; exact HB1.out.size), by omega, h32.out, HB1.out.trans (HBR.out.mono (by rw [HB.out]; exact HB1.out.size))⟩

end Go.Proofs.Ytcmgafehidgkmaa
