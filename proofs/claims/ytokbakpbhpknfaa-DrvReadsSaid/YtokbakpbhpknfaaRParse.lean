/-
  The reference's Parse. No conditions but the text's bound.
-/
import Derived.Test.YtokbakpbhpknfaaPathN
import Derived.Test.YtokbakpbhpknfaaRDec
import Derived.Deep.RegionHeld3
namespace Go.Proofs.Ytokbakpbhpknfaa.Nam
open Go.RowKit
set_option linter.unusedVariables false

set_option maxRecDepth 100000 in
theorem rparse_ret (w' : World) (g : Nat) (C : Array Value) (n : ByteArray) (k : Bool) (tmps : Array Value) (hg : w'.heap[g]? = some (.cells C 54 (0, 0))) (hc : C20 C) (hp : tmps.getD 2 undef = .pointer (some ⟨g, 0, none⟩)) (h3 : tmps.getD 3 undef = .string n) (h4 : tmps.getD 4 undef = .bool k) :
    (results Try.f46 tmps).run Try.prog w' = .ok (.tuple #[.agg C, .string n, .bool k]) w' := by
  rw [results_cell_tmp2 (fn := Try.f46) (p := 2) (u := 3) (v := 4) (ty := 54) Try.results46 tmps _ g 54 C (0, 0) _ hp hg Try.underlying54 rfl hc.info, h3, h4]

def RParsePost (o : Option (List UInt8 × List UInt8)) (w : World) (e : Ending) (w' : World) : Prop :=
  (∀ d n, o = some (d, n) → d.length = 20 ∧ e = .returned (.tuple #[.agg (d.map bv).toArray, .string ⟨n.toArray⟩, .bool true])) ∧
  (o = none → e = .returned (.tuple #[.agg (zU.map bv).toArray, .string ⟨#[]⟩, .bool false])) ∧ Below w.heap.size w w'

theorem dash_iff (l : List UInt8) (h : 34 ≤ l.length) : dash (l.drop 32) = (l.getD 32 0 == 45) := by
  have : decide (1 ≤ (l.drop 32).length) = true := by simp; omega
  simp only [dash, this, Bool.true_and]
  congr 1
  simp [List.getD]

/-- The two noughts at the beginning. -/
theorem zz_last (w : World) : ((w.alloc (.cells #[.int .u8 0, .int .u8 0, .int .u8 0, .int .u8 0, .int .u8 0, .int .u8 0, .int .u8 0, .int .u8 0, .int .u8 0, .int .u8 0, .int .u8 0, .int .u8 0, .int .u8 0, .int .u8 0, .int .u8 0, .int .u8 0, .int .u8 0, .int .u8 0, .int .u8 0, .int .u8 0] 54)).alloc (.cells #[.int .u8 0, .int .u8 0, .int .u8 0, .int .u8 0, .int .u8 0, .int .u8 0, .int .u8 0, .int .u8 0, .int .u8 0, .int .u8 0, .int .u8 0, .int .u8 0, .int .u8 0, .int .u8 0, .int .u8 0, .int .u8 0, .int .u8 0, .int .u8 0, .int .u8 0, .int .u8 0] 54)).heap[w.heap.size + 1]? = some (.cells (zU.map bv).toArray 54 (0, 0)) := by
  have h := heap_alloc_new (w.alloc (.cells #[.int .u8 0, .int .u8 0, .int .u8 0, .int .u8 0, .int .u8 0, .int .u8 0, .int .u8 0, .int .u8 0, .int .u8 0, .int .u8 0, .int .u8 0, .int .u8 0, .int .u8 0, .int .u8 0, .int .u8 0, .int .u8 0, .int .u8 0, .int .u8 0, .int .u8 0, .int .u8 0] 54)) (.cells #[.int .u8 0, .int .u8 0, .int .u8 0, .int .u8 0, .int .u8 0, .int .u8 0, .int .u8 0, .int .u8 0, .int .u8 0, .int .u8 0, .int .u8 0, .int .u8 0, .int .u8 0, .int .u8 0, .int .u8 0, .int .u8 0, .int .u8 0, .int .u8 0, .int .u8 0, .int .u8 0] 54)
  have e : (w.alloc (.cells #[.int .u8 0, .int .u8 0, .int .u8 0, .int .u8 0, .int .u8 0, .int .u8 0, .int .u8 0, .int .u8 0, .int .u8 0, .int .u8 0, .int .u8 0, .int .u8 0, .int .u8 0, .int .u8 0, .int .u8 0, .int .u8 0, .int .u8 0, .int .u8 0, .int .u8 0, .int .u8 0] 54)).heap.size = w.heap.size + 1 := by simp
  rw [e] at h
  exact h
theorem zz_first (w : World) : ((w.alloc (.cells #[.int .u8 0, .int .u8 0, .int .u8 0, .int .u8 0, .int .u8 0, .int .u8 0, .int .u8 0, .int .u8 0, .int .u8 0, .int .u8 0, .int .u8 0, .int .u8 0, .int .u8 0, .int .u8 0, .int .u8 0, .int .u8 0, .int .u8 0, .int .u8 0, .int .u8 0, .int .u8 0] 54)).alloc (.cells #[.int .u8 0, .int .u8 0, .int .u8 0, .int .u8 0, .int .u8 0, .int .u8 0, .int .u8 0, .int .u8 0, .int .u8 0, .int .u8 0, .int .u8 0, .int .u8 0, .int .u8 0, .int .u8 0, .int .u8 0, .int .u8 0, .int .u8 0, .int .u8 0, .int .u8 0, .int .u8 0] 54)).heap[w.heap.size]? = some (.cells (zU.map bv).toArray 54 (0, 0)) := by
  have h := heap_alloc_new w (.cells #[.int .u8 0, .int .u8 0, .int .u8 0, .int .u8 0, .int .u8 0, .int .u8 0, .int .u8 0, .int .u8 0, .int .u8 0, .int .u8 0, .int .u8 0, .int .u8 0, .int .u8 0, .int .u8 0, .int .u8 0, .int .u8 0, .int .u8 0, .int .u8 0, .int .u8 0, .int .u8 0] 54)
  exact (Go.RowKit.Below.heap_alloc _ _ _ (by simp)).trans h

theorem rpost_none {w w' : World} {e : Ending} (he : e = .returned (.tuple #[.agg (zU.map bv).toArray, .string ⟨#[]⟩, .bool false])) (hb : Below w.heap.size w w') : RParsePost none w e w' :=
  ⟨(fun d n h => by cases h), (fun _ => he), hb⟩

set_option maxRecDepth 100000 in
set_option maxHeartbeats 4000000 in
theorem rparse_early (s : ByteArray) (w : World) (h : decide ((s.size : Int) < 34) = true ∨ (decide ((s.size : Int) < 34) = false ∧ ∃ h34 : 34 ≤ s.size, s[32] ≠ 45)) :
    Calls Try.prog 46 #[.string s] w fun e w' => RParsePost none w e w' := by
  have i1 := Lib.hid (info_u20 zU rfl)
  have i2 := Lib.hid (one_bv zU)
  have X0 := Lib.hid (zz_first w)
  have X1 := Lib.hid (zz_last w)
  have b2 : Hid (Below w.heap.size w ((w.alloc (.cells #[.int .u8 0, .int .u8 0, .int .u8 0, .int .u8 0, .int .u8 0, .int .u8 0, .int .u8 0, .int .u8 0, .int .u8 0, .int .u8 0, .int .u8 0, .int .u8 0, .int .u8 0, .int .u8 0, .int .u8 0, .int .u8 0, .int .u8 0, .int .u8 0, .int .u8 0, .int .u8 0] 54)).alloc (.cells #[.int .u8 0, .int .u8 0, .int .u8 0, .int .u8 0, .int .u8 0, .int .u8 0, .int .u8 0, .int .u8 0, .int .u8 0, .int .u8 0, .int .u8 0, .int .u8 0, .int .u8 0, .int .u8 0, .int .u8 0, .int .u8 0, .int .u8 0, .int .u8 0, .int .u8 0, .int .u8 0] 54))) := Lib.hid (((Below.refl _ _).alloc (Nat.le_refl _) _).alloc (by simp) _)
  rcases h with h1 | ⟨h1, h34, h45⟩
  · go_enter Try.func46, Try.ntmps46
    go_wp2_with (first
      | (refine wpList_load_row rfl 54 _ rfl (w.heap.size + 1) rfl 54 (zU.map bv).toArray (0, 0) _ X1.out Try.underlying54 rfl i1.out ?_)
      | (refine wpList_store_row rfl 54 _ _ rfl w.heap.size (zU.map bv).toArray rfl rfl 54 _ X0.out i1.out rfl i2.out ?_))
    refine bodyPost_ret (rparse_ret _ w.heap.size _ ⟨#[]⟩ false _ (setRow_heap _ _ _ _ _ _ X0.out) (c20 zU rfl) rfl rfl rfl) rfl ?_
    exact rpost_none rfl (below_setRow b2.out (Nat.le_refl _) _)
  · have h2 : (32 : Int) < (s.size : Int) := by omega
    have h3 : ((s[32].toNat : Int) != 45) = true := by
      have : s[32].toNat ≠ 45 := fun h => h45 (UInt8.toNat_inj.1 h)
      rw [bne_iff_ne]; omega
    have h3' : ¬ (s[32].toNat : Int) = 45 := by simpa using h3
    clear h45
    go_enter Try.func46, Try.ntmps46
    go_wp2_with (first
      | (refine wpList_load_row rfl 54 _ rfl (w.heap.size + 1) rfl 54 (zU.map bv).toArray (0, 0) _ X1.out Try.underlying54 rfl i1.out ?_)
      | (refine wpList_store_row rfl 54 _ _ rfl w.heap.size (zU.map bv).toArray rfl rfl 54 _ X0.out i1.out rfl i2.out ?_))
    refine bodyPost_ret (rparse_ret _ w.heap.size _ ⟨#[]⟩ false _ (setRow_heap _ _ _ _ _ _ X0.out) (c20 zU rfl) rfl rfl rfl) rfl ?_
    exact rpost_none rfl (below_setRow b2.out (Nat.le_refl _) _)

theorem zU_get (m j : Nat) (h : j < (zU.drop m).length) : (zU.drop m)[j] = 0 := by simp only [zU, List.getElem_drop, List.getElem_replicate]

theorem copy_row (p : List UInt8) (k : Nat) (hp : p.length = 20) (hk : k < 20) : ((p.take k ++ zU.drop k).map bv).set k (bv (p.getD k 0)) = (p.take (k + 1) ++ zU.drop (k + 1)).map bv := by
  apply List.ext_getElem
  · simp [zU]; omega
  · intro i h1 h2
    simp only [List.getElem_set, List.getElem_map, List.getElem_append, List.length_take, hp]
    by_cases hik : i = k
    · subst hik
      simp [List.getD, hp, hk, show min (i + 1) 20 = i + 1 by omega]
    · by_cases hlt : i < k
      · simp [show ¬ k = i by omega, show i < min k 20 by omega, show i < min (k + 1) 20 by omega]
      · simp only [show ¬ k = i by omega, if_false, show ¬ i < min k 20 by omega, show ¬ i < min (k + 1) 20 by omega, dite_false, zU_get]

set_option maxRecDepth 100000 in
set_option maxHeartbeats 8000000 in
theorem rparse_late (s : ByteArray) (w : World) (hm : s.size ≤ 140737488355328) (h34 : 34 ≤ s.size) (h45 : s[32] = 45) :
    Calls Try.prog 46 #[.string s] w fun e w' => RParsePost (parseP s.data.toList) w e w' := by
  have hlen : s.data.toList.length = s.size := by simp
  have h1 : decide ((s.size : Int) < 34) = false := by simp; omega
  have h2 : (32 : Int) < (s.size : Int) := by omega
  have h2b : (33 : Int) ≤ (s.size : Int) := by omega
  have h2c : (32 : Int) ≤ (s.size : Int) := by omega
  have e1 : (s.extract 0 32).data.toList = s.data.toList.take 32 := by rw [ext_data]; simp
  have e2 : (s.extract 33 s.size).data.toList = s.data.toList.drop 33 := by
    rw [ext_data]; apply List.take_of_length_le; simp
  have e3 : (s.extract 0 32).size ≤ 1000 := by simp; omega
  have hpp : parseP s.data.toList = if isName (s.data.toList.drop 33) = true then (dec (s.data.toList.take 32)).map (·, s.data.toList.drop 33) else none := by
    unfold parseP
    have hd : dash (s.data.toList.drop 32) = true := by
      rw [dash_iff _ (by omega)]
      have := str_get s 32 (by omega)
      rw [h45] at this
      rw [← this]; rfl
    simp only [hlen, hd, true_and, show 32 ≤ s.size by omega]
  obtain ⟨O, hO⟩ : ∃ O, O = parseP s.data.toList := ⟨_, rfl⟩
  rw [← hO] at hpp ⊢
  have HL := Lib.hid hlen
  have E1 := Lib.hid e1
  have E2 := Lib.hid e2
  have E3 := Lib.hid e3
  have HP := Lib.hid hpp
  have i1 := Lib.hid (info_u20 zU rfl)
  have i2 := Lib.hid (one_bv zU)
  have x0 := zz_first w
  have x1 := zz_last w
  have b2 : Below w.heap.size w ((w.alloc (.cells #[.int .u8 0, .int .u8 0, .int .u8 0, .int .u8 0, .int .u8 0, .int .u8 0, .int .u8 0, .int .u8 0, .int .u8 0, .int .u8 0, .int .u8 0, .int .u8 0, .int .u8 0, .int .u8 0, .int .u8 0, .int .u8 0, .int .u8 0, .int .u8 0, .int .u8 0, .int .u8 0] 54)).alloc (.cells #[.int .u8 0, .int .u8 0, .int .u8 0, .int .u8 0, .int .u8 0, .int .u8 0, .int .u8 0, .int .u8 0, .int .u8 0, .int .u8 0, .int .u8 0, .int .u8 0, .int .u8 0, .int .u8 0, .int .u8 0, .int .u8 0, .int .u8 0, .int .u8 0, .int .u8 0, .int .u8 0] 54)) := ((Below.refl _ _).alloc (Nat.le_refl _) _).alloc (by simp) _
  obtain ⟨w1, hw1⟩ : ∃ w1, w1 = (w.alloc (.cells #[.int .u8 0, .int .u8 0, .int .u8 0, .int .u8 0, .int .u8 0, .int .u8 0, .int .u8 0, .int .u8 0, .int .u8 0, .int .u8 0, .int .u8 0, .int .u8 0, .int .u8 0, .int .u8 0, .int .u8 0, .int .u8 0, .int .u8 0, .int .u8 0, .int .u8 0, .int .u8 0] 54)).alloc (.cells #[.int .u8 0, .int .u8 0, .int .u8 0, .int .u8 0, .int .u8 0, .int .u8 0, .int .u8 0, .int .u8 0, .int .u8 0, .int .u8 0, .int .u8 0, .int .u8 0, .int .u8 0, .int .u8 0, .int .u8 0, .int .u8 0, .int .u8 0, .int .u8 0, .int .u8 0, .int .u8 0] 54) := ⟨_, rfl⟩
  have s1 : w1.heap.size = w.heap.size + 1 + 1 := by rw [hw1]; simp
  rw [← hw1] at x0 x1 b2
  have HW1 := Lib.hid hw1
  have X0 := Lib.hid x0
  have X1 := Lib.hid x1
  have B2 := Lib.hid b2
  clear hlen e1 e2 e3 hpp hO x0 x1 b2 hw1
  cases hn : isName (s.data.toList.drop 33)
  · have HN : Hid (O = none) := Lib.hid (by rw [HP.out, if_neg]; intro h; rw [hn] at h; cases h)
    have HI : Hid (isName (s.extract 33 s.size).data.toList = false) := Lib.hid (by rw [E2.out]; exact hn)
    clear hn
    go_enter Try.func46, Try.ntmps46
    go_wp2_with fail
    rw [← HW1.out]
    refine (rname_any (s.extract 33 s.size) _ (by simp; omega)).mono ?_
    rintro e w2 ⟨rfl, rfl⟩
    rw [HI.out]
    go_wp2_with (first
      | (refine wpList_load_row rfl 54 _ rfl (w.heap.size + 1) rfl 54 (zU.map bv).toArray (0, 0) _ X1.out Try.underlying54 rfl i1.out ?_)
      | (refine wpList_store_row rfl 54 _ _ rfl w.heap.size (zU.map bv).toArray rfl rfl 54 _ X0.out i1.out rfl i2.out ?_))
    refine bodyPost_ret (rparse_ret _ w.heap.size _ ⟨#[]⟩ false _ (setRow_heap _ _ _ _ _ _ X0.out) (c20 zU rfl) rfl rfl rfl) rfl ?_
    rw [HN.out]
    exact rpost_none rfl (below_setRow B2.out (Nat.le_refl _) _)
  · have HI : Hid (isName (s.extract 33 s.size).data.toList = true) := Lib.hid (by rw [E2.out]; exact hn)
    have HPN : Hid (O = (dec (s.data.toList.take 32)).map (·, s.data.toList.drop 33)) := Lib.hid (by rw [HP.out, if_pos hn])
    clear hn
    go_enter Try.func46, Try.ntmps46
    go_wp2_with fail
    rw [← HW1.out]
    refine (rname_any (s.extract 33 s.size) _ (by simp; omega)).mono ?_
    rintro e w2 ⟨rfl, rfl⟩
    rw [HI.out]
    go_wp2_with fail
    refine (rdecode_any (s.extract 0 32) _ E3.out).mono ?_
    rintro e w2 ⟨hs2, hn2, b3⟩
    rw [E1.out] at hs2 hn2
    have y0 : Has w2 w.heap.size (zU.map bv) 54 := (show Has w1 w.heap.size (zU.map bv) 54 from X0.out).below b3 (by omega)
    have y1 : Has w2 (w.heap.size + 1) (zU.map bv) 54 := (show Has w1 (w.heap.size + 1) (zU.map bv) 54 from X1.out).below b3 (by omega)
    have b4 : Below w.heap.size w w2 := B2.out.trans (b3.mono B2.out.size)
    have Y0 := Lib.hid (show w2.heap[w.heap.size]? = some (.cells (zU.map bv).toArray 54 (0, 0)) from y0)
    have Y1 := Lib.hid (show w2.heap[w.heap.size + 1]? = some (.cells (zU.map bv).toArray 54 (0, 0)) from y1)
    have B4 := Lib.hid b4
    clear y0 y1 b4
    rcases hd : dec (s.data.toList.take 32) with _ | p
    · obtain rfl := hn2 hd
      have HN : Hid (O = none) := Lib.hid (by rw [HPN.out, hd]; rfl)
      clear hs2 hn2 hd b3
      go_wp2_with (first
        | (refine wpList_load_row rfl 54 _ rfl (w.heap.size + 1) rfl 54 (zU.map bv).toArray (0, 0) _ Y1.out Try.underlying54 rfl i1.out ?_)
        | (refine wpList_store_row rfl 54 _ _ rfl w.heap.size (zU.map bv).toArray rfl rfl 54 _ Y0.out i1.out rfl i2.out ?_))
      refine bodyPost_ret (rparse_ret _ w.heap.size _ ⟨#[]⟩ false _ (setRow_heap _ _ _ _ _ _ Y0.out) (c20 zU rfl) rfl rfl rfl) rfl ?_
      rw [HN.out]
      exact rpost_none rfl (below_setRow B4.out (Nat.le_refl _) _)
    · obtain ⟨g, rfl, hq⟩ := hs2 p hd
      have hp20 := dec_20 hd (by rw [List.length_take, HL.out]; omega)
      have hown := owns_full hq
      have hgs : w1.heap.size ≤ g := hown.1
      have HG := Lib.hid hown.2
      have HP20 := Lib.hid hp20
      have HN : Hid (O = some (p, s.data.toList.drop 33)) := Lib.hid (by rw [HPN.out, hd]; rfl)
      have HPl : Hid ((zU.map bv) = ((p.take 0 ++ zU.drop 0).map bv)) := Lib.hid (by simp)
      rw [hp20]
      obtain ⟨P, hP⟩ : ∃ P, P = w.heap.size := ⟨_, rfl⟩
      rw [← hP] at Y0 Y1 B4 s1 ⊢
      have HPP := Lib.hid hP
      clear hs2 hn2 hd hq hown hp20 b3 hP X0 X1 B2 HW1
      go_wp2_with fail
      go_loopw [8] (fun ii wr => ∃ k : Nat, k ≤ 20 ∧ ii = .int .i64 k ∧ Has wr P (zU.map bv) 54 ∧ Has wr (P + 1) ((p.take k ++ zU.drop k).map bv) 54 ∧ Has wr g (p.map bv) 5 ∧ Below P w wr) (fun ii _ => 20 - (intOf ii).toNat)
      case atStart => exact ⟨0, Nat.zero_le _, rfl, Y0.out, by rw [← HPl.out]; exact Y1.out, HG.out, B4.out⟩
      case round =>
        clear Y0 Y1 B4 HG
        obtain ⟨k, hk, rfl, ha, hb, hg, hbel⟩ := hrel
        by_cases hlt : k < 20
        · have cg : wr.cell? ⟨g, k, none⟩ = some (.int .u8 ((p.getD k 0).toNat : Int)) := hg.cellAt (by rw [List.getElem?_map]; simp [List.getD, HP20.out, hlt, bv])
          have zf := hb.frozen k
          obtain ⟨old, hold⟩ : ∃ u, ((p.take k ++ zU.drop k).map bv)[k]? = some u := by
            refine ⟨_, List.getElem?_eq_getElem ?_⟩
            simp [zU, HP20.out]; omega
          have cb := hb.cellAt hold
          have HS := Lib.hid (copy_row p k HP20.out hlt)
          have HA := Lib.hid ha
          have HB := Lib.hid hb
          have HG := Lib.hid hg
          have HBB := Lib.hid hbel
          clear ha hb hg hbel hold
          have hk20 : (k : Int) < 20 := by omega
          go_wp2_with fail
          go_roundw
          case rel =>
            refine ⟨k + 1, by omega, by go_num, HA.out.setOther (a := ⟨P + 1, k, none⟩) (by show P ≠ P + 1; omega) _, ?_, HG.out.setOther (a := ⟨P + 1, k, none⟩) (by show g ≠ P + 1; omega) _, HBB.out.setCell (p := ⟨P + 1, k, none⟩) (by show P ≤ P + 1; omega) _⟩
            rw [← HS.out]
            exact HB.out.set _ _
          case measure => simp [intOf]; omega
        · obtain rfl : k = 20 := by omega
          have e20 : p.take 20 ++ zU.drop 20 = p := by rw [List.take_of_length_le (by rw [HP20.out]; exact Nat.le_refl _)]; simp [zU]
          rw [e20] at hb
          have hcp := c20 p HP20.out
          obtain ⟨L, hL⟩ : ∃ L, L = p.map bv := ⟨_, rfl⟩
          rw [← hL] at hb hcp
          have HLL := Lib.hid hL
          have i3 : (Try.prog.info? 54).map (·.size) = some L.length := by rw [hcp.info, List.size_toArray]
          have hu20 := Try.underlying54
          have i5 : (zU.map bv).toArray.size = L.toArray.size := by rw [hcp.size]; rfl
          have I1 := Lib.hid hcp.info
          have I5 := Lib.hid i5
          have I4 := Lib.hid hcp.one
          have HA := Lib.hid ha
          have HB := Lib.hid hb
          have HBB := Lib.hid hbel
          have HCP := Lib.hid hcp
          have hSB : ∀ W : World, W.heap[P + 1]? = some (.cells L.toArray 54 (0, 0)) → W.rangeAt (P + 1) 0 L := fun W h j v hv => by
            rw [Nat.zero_add, cell_of_row W (P + 1) j _ _ _ h]; simpa using hv
          have HSB := Lib.hid hSB
          clear ha hb hg hbel e20 hcp i5 hL hSB
          go_wp2_with fail
          refine wp_region_held_drew (S := fun w' => w'.rangeAt (P + 1) 0 L) (by kernel_rfl) (HSB.out _ HB.out) (fun hHeld => ?_)
          refine wpAnyH_take (i := 0) (oi := { dst := some 48, op := Op.load 54 (Operand.tmp 5), type := 54, pos := "ref.go:39", after := #[], guard := none }) rfl (by kernel_rfl) (by kernel_rfl) (by kernel_rfl) (fun _ _ _ h => h)
            (yieldsIf_load_mid (by rfl) 54 (.tmp 5) rfl (P + 1) 0 rfl L _ (fun _ h => h) hu20 rfl i3) hHeld ?_
          try simp only [Act.put, List.setIfInBounds_toArray, List.set_cons_zero, List.set_cons_succ]
          refine wpAnyH_take (i := 1) (oi := { dst := some 49, op := Op.move (Operand.tmp 0), type := 9, pos := "ref.go:39", after := #[], guard := none }) (v := .string s) rfl (by kernel_rfl) (by kernel_rfl) (by kernel_rfl) (fun _ _ _ h => h)
            (Or.inl ⟨by rfl, by intro w hSw; clear hSw; go_simp⟩) hHeld ?_
          try simp only [Act.put, List.setIfInBounds_toArray, List.set_cons_zero, List.set_cons_succ]
          refine wpAnyH_take (i := 2) (oi := { dst := some 50, op := Op.slice 9 (Operand.tmp 49) (some (Operand.const (Value.int IntKind.i64 33))) none none, type := 9, pos := "ref.go:39", after := #[{ on := 1, ground := Ground.data }], guard := none }) (v := .string (s.extract 33 s.size)) rfl (by kernel_rfl) (by kernel_rfl) (by kernel_rfl) (fun _ _ _ h => h)
            (Or.inl ⟨by rfl, by intro w hSw; clear hSw; go_simp⟩) hHeld ?_
          try simp only [Act.put, List.setIfInBounds_toArray, List.set_cons_zero, List.set_cons_succ]
          refine wpAnyH_ready (rs := [3]) (by kernel_rfl) (by simp) ?_
          refine AllReadyH.cons (o := { dst := none, op := Op.store 54 (Operand.tmp 2) (Operand.tmp 48), type := 0, pos := "ref.go:39", after := #[{ on := 0, ground := Ground.data }, { on := 0, ground := Ground.phase }, { on := 1, ground := Ground.textOnly Departure.lateStores }, { on := 2, ground := Ground.textOnly Departure.lateStoresUnsure }], guard := none }) rfl (fun K hK => ?_) AllReadyH.nil
          rw [if_pos (by rfl)]
          refine wp_store_row 54 _ _ rfl P L.toArray rfl rfl 54 _ HA.out I1.out I5.out I4.out ?_
          refine hK.out _ _ (HSB.out _ ((setRow_other _ _ _ _ (by omega)).trans HB.out)) (fun hHeld2 => ?_)
          clear hK K hHeld
          try simp only [Act.put]
          refine wpAnyH_take (i := 4) (oi := { dst := some 3, op := Op.assign (Operand.tmp 50), type := 9, pos := "ref.go:39", after := #[{ on := 2, ground := Ground.data }, { on := 3, ground := Ground.chain }, { on := 0, ground := Ground.phase }, { on := 1, ground := Ground.phase }, { on := 2, ground := Ground.phase }, { on := 3, ground := Ground.phase }], guard := none }) (v := .string (s.extract 33 s.size)) rfl (by kernel_rfl) (by kernel_rfl) (by kernel_rfl) (fun _ _ _ h => h)
            (Or.inl ⟨by rfl, by intro w hSw; clear hSw; go_simp⟩) hHeld2 ?_
          try simp only [Act.put, List.setIfInBounds_toArray, List.set_cons_zero, List.set_cons_succ]
          refine wpAnyH_take (i := 5) (oi := { dst := some 4, op := Op.assign (Operand.const (Value.bool true)), type := 4, pos := "ref.go:39", after := #[{ on := 4, ground := Ground.chain }, { on := 0, ground := Ground.phase }, { on := 1, ground := Ground.phase }, { on := 2, ground := Ground.phase }, { on := 3, ground := Ground.phase }, { on := 4, ground := Ground.phase }], guard := none }) (v := .bool true) rfl (by kernel_rfl) (by kernel_rfl) (by kernel_rfl) (fun _ _ _ h => h)
            (Or.inl ⟨by rfl, by intro w hSw; clear hSw; go_simp⟩) hHeld2 ?_
          try simp only [Act.put, List.setIfInBounds_toArray, List.set_cons_zero, List.set_cons_succ]
          refine wpAnyH_done (by kernel_rfl) ?_ _
          go_wp2_with fail
          refine bodyPost_ret (rparse_ret _ P L.toArray (s.extract 33 s.size) true _ (setRow_heap _ _ _ _ _ _ HA.out) HCP.out rfl rfl rfl) rfl ?_
          rw [HN.out]
          refine ⟨(fun d n h => ?_), (fun h => by cases h), ?_⟩
          · cases h
            refine ⟨HP20.out, ?_⟩
            have hx : s.extract 33 s.size = ⟨(s.data.toList.drop 33).toArray⟩ := bytes_ext (by rw [E2.out])
            rw [HLL.out, hx]
          · rw [← HPP.out]; exact below_setRow HBB.out.drew (Nat.le_refl _) _

theorem rparse_any (s : ByteArray) (w : World) (hm : s.size ≤ 140737488355328) :
    Calls Try.prog 46 #[.string s] w fun e w' => RParsePost (parseP s.data.toList) w e w' := by
  have hlen : s.data.toList.length = s.size := by simp
  by_cases h34 : s.size < 34
  · have hp : parseP s.data.toList = none := by
      unfold parseP
      rw [if_neg]
      rintro ⟨_, h2, h3⟩
      have := (name_small h3).1
      rw [List.length_drop] at this
      omega
    rw [hp]
    exact rparse_early s w (.inl (by simp; omega))
  · by_cases h45 : s[32] = 45
    · exact rparse_late s w hm (by omega) h45
    · have hp : parseP s.data.toList = none := by
        unfold parseP
        rw [if_neg]
        rintro ⟨_, h2, h3⟩
        rw [dash_iff _ (by omega)] at h2
        have := str_get s 32 (by omega)
        rw [this] at h45
        simp at h2
        apply h45
        simpa using h2
      rw [hp]
      exact rparse_early s w (.inr ⟨by simp; omega, by omega, h45⟩)

end Go.Proofs.Ytokbakpbhpknfaa.Nam
