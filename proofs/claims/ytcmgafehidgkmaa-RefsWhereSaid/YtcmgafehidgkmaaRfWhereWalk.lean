/-
  The walk of the law RefsWhere. Conditions: bounds on the lengths.
-/
import Derived.Test.YtcmgafehidgkmaaRfForm
import Derived.Test.YtcmgafehidgkmaaRfAwake
namespace Go.Proofs.Ytcmgafehidgkmaa
open Go.RowKit
set_option linter.unusedVariables false

/-- Cells that read as a tree as long as all but one block stays. -/
def StP (P : Nat) (w : World) (n : Nat) (cs : List Value) (t : T) : Prop := ∀ w', But w.heap.size P w w' → IsT w' n cs t
theorem StP.step {P : Nat} {w w1 : World} {n : Nat} {cs : List Value} {t : T} (h : StP P w n cs t) (hb : But w.heap.size P w w1) : StP P w1 n cs t := fun w' hb' => h w' (hb.trans (hb'.mono hb.size))
theorem StP.isT {P : Nat} {w : World} {n : Nat} {cs : List Value} {t : T} (h : StP P w n cs t) : IsT w n cs t := h w (But.refl _ _ _)
theorem isB_but {w w' : World} {P : Nat} {a : Option Addr} {n c : Nat} {l : List UInt8} (h : IsB w a n c l) (hb : But w.heap.size P w w') (hne : ∀ b off, a = some ⟨b, off, none⟩ → b ≠ P) : IsB w' a n c l := by
  refine ⟨h.length, ?_, h.nil, h.room, h.most⟩
  rcases h.at_ with h0 | ⟨b, off, e, hlt, hc⟩
  · exact .inl h0
  · exact .inr ⟨b, off, e, Nat.lt_of_lt_of_le hlt hb.size, fun i hi => (World.cell?_of_block (a := ⟨b, off + i, none⟩) (hb.block b hlt (hne b off e))).trans (hc i hi)⟩
theorem isS_butP {w w' : World} {P : Nat} {a : Option Addr} {n c : Nat} {l : List ByteArray} (h : IsS w a n c l) (hb : But w.heap.size P w w') (hne : ∀ b off, a = some ⟨b, off, none⟩ → b ≠ P) : IsS w' a n c l := by
  refine ⟨h.length, ?_, h.nil, h.room⟩
  rcases h.at_ with h0 | ⟨b, off, e, hlt, hc⟩
  · exact .inl h0
  · exact .inr ⟨b, off, e, Nat.lt_of_lt_of_le hlt hb.size, fun i hi => (World.cell?_of_block (a := ⟨b, off + i, none⟩) (hb.block b hlt (hne b off e))).trans (hc i hi)⟩
theorem isB_nil (w : World) : IsB w none 0 0 [] := ⟨rfl, .inl rfl, fun _ => ⟨rfl, rfl⟩, ⟨Nat.le_refl _, Nat.zero_le _⟩, Nat.zero_le _⟩
/-- A file or a link. -/
theorem stp_leaf {P : Nat} {w : World} {a : Option Addr} {n c : Nat} {l : List UInt8} (k : UInt8) (h : IsB w a n c l) (hne : ∀ b off, a = some ⟨b, off, none⟩ → b ≠ P) (m : Nat) : StP P w (m + 1) [.int .u8 (k.toNat : Int), .bool false, .slice a n c, .slice none 0 0, .slice none 0 0] (.mk k false l [] []) :=
  fun w' hb => ⟨_, _, _, _, _, _, _, _, _, rfl, isB_but h hb hne, isS_nil w', isK_nil _ w'⟩
def fileL : List Value := [.int .u8 1, .bool false, .slice none 0 0, .slice none 0 0, .slice none 0 0]
theorem isT_file (w : World) (m : Nat) : IsT w (m + 1) fileL (.mk 1 false [] [] []) := ⟨_, _, _, _, _, _, _, _, _, rfl, isB_nil w, isS_nil w, isK_nil _ w⟩
/-- A directory of a file and a tree. -/
theorem stp_two {P : Nat} {w : World} {an : Option Addr} {nn cn : Nat} {ns : List ByteArray} {K : Nat} {m : Nat} {cs : List Value} {t : T} (h : StP P w (m + 1) cs t) (hc5 : cs.length = 5) (hS : IsS w an nn cn ns) (hneS : ∀ b off, an = some ⟨b, off, none⟩ → b ≠ P) (hK : Has w K (fileL ++ cs) 30) (hKP : K ≠ P) :
    StP P w (m + 2) [.int .u8 3, .bool false, .slice none 0 0, .slice an nn cn, .slice (some ⟨K, 0, none⟩) 2 2] (.mk 3 false [] ns [.mk 1 false [] [] [], t]) := by
  intro w' hb
  have hK' : Has w' K (fileL ++ cs) 30 := (hb.block K hK.lt hKP).trans hK
  obtain ⟨c0, c1, c2, c3, c4, rfl⟩ := five_list hc5
  refine ⟨_, _, _, _, _, _, _, _, _, rfl, isB_nil w', isS_butP hS hb hneS, ⟨rfl, .inr ⟨K, 0, rfl, hK'.lt, fun i hi => ?_⟩, (fun e => by cases e), ⟨Nat.le_refl _, by unfold maxLen; omega⟩⟩⟩
  match i, hi with
  | 0, _ => exact ⟨_, _, _, _, _, isT_file w' m, hK'.cellAt rfl, hK'.cellAt rfl, hK'.cellAt rfl, hK'.cellAt rfl, hK'.cellAt rfl⟩
  | 1, _ => exact ⟨_, _, _, _, _, h w' hb, hK'.cellAt rfl, hK'.cellAt rfl, hK'.cellAt rfl, hK'.cellAt rfl, hK'.cellAt rfl⟩
theorem stp_one {P : Nat} {w : World} {an : Option Addr} {nn cn : Nat} {ns : List ByteArray} {K : Nat} {m : Nat} (hS : IsS w an nn cn ns) (hneS : ∀ b off, an = some ⟨b, off, none⟩ → b ≠ P) (hK : Has w K fileL 30) (hKP : K ≠ P) :
    StP P w (m + 2) [.int .u8 3, .bool false, .slice none 0 0, .slice an nn cn, .slice (some ⟨K, 0, none⟩) 1 1] (.mk 3 false [] ns [.mk 1 false [] [] []]) := by
  intro w' hb
  have hK' : Has w' K fileL 30 := (hb.block K hK.lt hKP).trans hK
  refine ⟨_, _, _, _, _, _, _, _, _, rfl, isB_nil w', isS_butP hS hb hneS, ⟨rfl, .inr ⟨K, 0, rfl, hK'.lt, fun i hi => ?_⟩, (fun e => by cases e), ⟨Nat.le_refl _, by unfold maxLen; omega⟩⟩⟩
  match i, hi with
  | 0, _ => exact ⟨_, _, _, _, _, isT_file w' m, hK'.cellAt rfl, hK'.cellAt rfl, hK'.cellAt rfl, hK'.cellAt rfl, hK'.cellAt rfl⟩
theorem isS_two {W : World} {b : Nat} {x y : ByteArray} (h : Has W b [.string x, .string y] 9) : IsS W (some ⟨b, 0, none⟩) 2 2 [x, y] :=
  ⟨rfl, .inr ⟨b, 0, rfl, h.lt, fun i hi => by
    match i, hi with
    | 0, _ => exact h.cellAt rfl
    | 1, _ => exact h.cellAt rfl⟩, (fun e => by cases e), ⟨Nat.le_refl _, by unfold maxLen; omega⟩⟩
theorem met_two {x : Bool} {d : List UInt8} {ns : List ByteArray} {f t : T} {K : Bts} (h : MetT t K) : MetT (.mk 3 x d ns [f, t]) K := metT_mk.2 (.inr (.inr ⟨1, by simp, h⟩))
theorem cnt_two (x : Bool) (d : List UInt8) (ns : List ByteArray) (t : T) : cntT (.mk 3 x d ns [.mk 1 false [] [] [], t]) = 2 + cntT t := by
  rw [cntT_mk]; simp [cntL, cntT]; omega
/-- Five cells are written. -/
def set5 (w : World) (P : Nat) (v0 v1 v2 v3 v4 : Value) : World := ((((w.setCell ⟨P, 0, none⟩ v0).setCell ⟨P, 1, none⟩ v1).setCell ⟨P, 2, none⟩ v2).setCell ⟨P, 3, none⟩ v3).setCell ⟨P, 4, none⟩ v4
theorem set5_has {w : World} {P : Nat} {c0 c1 c2 c3 c4 : Value} {t : TypeId} (h : Has w P [c0, c1, c2, c3, c4] t) (v0 v1 v2 v3 v4 : Value) : Has (set5 w P v0 v1 v2 v3 v4) P [v0, v1, v2, v3, v4] t :=
  ((((h.set 0 v0).set 1 v1).set 2 v2).set 3 v3).set 4 v4
theorem set5_size (w : World) (P : Nat) (v0 v1 v2 v3 v4 : Value) : (set5 w P v0 v1 v2 v3 v4).heap.size = w.heap.size := by simp [set5]
theorem set5_but (w : World) (P B : Nat) (v0 v1 v2 v3 v4 : Value) : But B P w (set5 w P v0 v1 v2 v3 v4) :=
  (((((But.refl B P w).setB 0 v0).setB 1 v1).setB 2 v2).setB 3 v3).setB 4 v4
theorem set5_below {w0 w : World} {P B : Nat} (h : Below B w0 w) (hP : B ≤ P) (v0 v1 v2 v3 v4 : Value) : Below B w0 (set5 w P v0 v1 v2 v3 v4) :=
  ((((h.setCell (p := ⟨P, 0, none⟩) hP v0).setCell (p := ⟨P, 1, none⟩) hP v1).setCell (p := ⟨P, 2, none⟩) hP v2).setCell (p := ⟨P, 3, none⟩) hP v3).setCell (p := ⟨P, 4, none⟩) hP v4
theorem made_two {w0 wr : World} {P B : Nat} {c0 c1 c2 c3 c4 : Value} (h : Has wr P [c0, c1, c2, c3, c4] 30) (hb : Below B w0 wr) (hBP : B ≤ P) (hBs : B ≤ wr.heap.size) {v0 v1 v2 v3 v4 : Value} :
    Has (((set5 wr P v0 v1 v2 v3 v4).alloc (.cells #[.string ⟨#[97]⟩, .string ⟨#[98]⟩] 9)).alloc (.cells #[.int .u8 1, .bool false, .slice none 0 0, .slice none 0 0, .slice none 0 0, c0, c1, c2, c3, c4] 30)) P [v0, v1, v2, v3, v4] 30 ∧
    Has (((set5 wr P v0 v1 v2 v3 v4).alloc (.cells #[.string ⟨#[97]⟩, .string ⟨#[98]⟩] 9)).alloc (.cells #[.int .u8 1, .bool false, .slice none 0 0, .slice none 0 0, .slice none 0 0, c0, c1, c2, c3, c4] 30)) wr.heap.size [.string ⟨#[97]⟩, .string ⟨#[98]⟩] 9 ∧
    Has (((set5 wr P v0 v1 v2 v3 v4).alloc (.cells #[.string ⟨#[97]⟩, .string ⟨#[98]⟩] 9)).alloc (.cells #[.int .u8 1, .bool false, .slice none 0 0, .slice none 0 0, .slice none 0 0, c0, c1, c2, c3, c4] 30)) (wr.heap.size + 1) (fileL ++ [c0, c1, c2, c3, c4]) 30 ∧
    But wr.heap.size P wr (((set5 wr P v0 v1 v2 v3 v4).alloc (.cells #[.string ⟨#[97]⟩, .string ⟨#[98]⟩] 9)).alloc (.cells #[.int .u8 1, .bool false, .slice none 0 0, .slice none 0 0, .slice none 0 0, c0, c1, c2, c3, c4] 30)) ∧
    Below B w0 (((set5 wr P v0 v1 v2 v3 v4).alloc (.cells #[.string ⟨#[97]⟩, .string ⟨#[98]⟩] 9)).alloc (.cells #[.int .u8 1, .bool false, .slice none 0 0, .slice none 0 0, .slice none 0 0, c0, c1, c2, c3, c4] 30)) := by
  have hz := set5_size wr P v0 v1 v2 v3 v4
  have hz2 : ((set5 wr P v0 v1 v2 v3 v4).alloc (.cells #[.string ⟨#[97]⟩, .string ⟨#[98]⟩] 9)).heap.size = wr.heap.size + 1 := by simp [hz]
  have hn := Has.new (set5 wr P v0 v1 v2 v3 v4) [.string ⟨#[97]⟩, .string ⟨#[98]⟩] 9
  rw [hz] at hn
  have hk := Has.new ((set5 wr P v0 v1 v2 v3 v4).alloc (.cells #[.string ⟨#[97]⟩, .string ⟨#[98]⟩] 9)) (fileL ++ [c0, c1, c2, c3, c4]) 30
  rw [hz2] at hk
  exact ⟨((set5_has h v0 v1 v2 v3 v4).alloc _).alloc _, hn.alloc _, hk, ((set5_but wr P _ v0 v1 v2 v3 v4).alloc (by rw [hz]; exact Nat.le_refl _) _).alloc (by rw [hz2]; omega) _, ((set5_below hb hBP v0 v1 v2 v3 v4).alloc (by rw [hz]; exact hBs) _).alloc (by rw [hz2]; omega) _⟩
theorem made_one {w0 wr : World} {P B : Nat} {c0 c1 c2 c3 c4 : Value} (x : ByteArray) (h : Has wr P [c0, c1, c2, c3, c4] 30) (hb : Below B w0 wr) (hBP : B ≤ P) (hBs : B ≤ wr.heap.size) {v0 v1 v2 v3 v4 : Value} :
    Has (((set5 wr P v0 v1 v2 v3 v4).alloc (.cells #[.string x] 9)).alloc (.cells #[.int .u8 1, .bool false, .slice none 0 0, .slice none 0 0, .slice none 0 0] 30)) P [v0, v1, v2, v3, v4] 30 ∧ Has (((set5 wr P v0 v1 v2 v3 v4).alloc (.cells #[.string x] 9)).alloc (.cells #[.int .u8 1, .bool false, .slice none 0 0, .slice none 0 0, .slice none 0 0] 30)) wr.heap.size [.string x] 9 ∧ Has (((set5 wr P v0 v1 v2 v3 v4).alloc (.cells #[.string x] 9)).alloc (.cells #[.int .u8 1, .bool false, .slice none 0 0, .slice none 0 0, .slice none 0 0] 30)) (wr.heap.size + 1) fileL 30 ∧ Below B w0 (((set5 wr P v0 v1 v2 v3 v4).alloc (.cells #[.string x] 9)).alloc (.cells #[.int .u8 1, .bool false, .slice none 0 0, .slice none 0 0, .slice none 0 0] 30)) := by
  have hz := set5_size wr P v0 v1 v2 v3 v4
  have hz2 : ((set5 wr P v0 v1 v2 v3 v4).alloc (.cells #[.string x] 9)).heap.size = wr.heap.size + 1 := by simp [hz]
  have hn := Has.new (set5 wr P v0 v1 v2 v3 v4) [.string x] 9
  rw [hz] at hn
  have hk := Has.new ((set5 wr P v0 v1 v2 v3 v4).alloc (.cells #[.string x] 9)) fileL 30
  rw [hz2] at hk
  exact ⟨((set5_has h v0 v1 v2 v3 v4).alloc _).alloc _, hn.alloc _, hk, ((set5_below hb hBP v0 v1 v2 v3 v4).alloc (by rw [hz]; exact hBs) _).alloc (by rw [hz2]; omega) _⟩
theorem small_leaf (k : UInt8) (x : Bool) (l : List UInt8) (h : l.length ≤ 140737488355328) : Small (.mk k x l [] []) := .mk (fun i hi => by simp at hi) (fun i hi => by simp at hi) ⟨h, by simp, by simp⟩
theorem small_one {x : ByteArray} (h : x.size ≤ 140737488355328) : Small (.mk 3 false [] [x] [.mk 1 false [] [] []]) := .mk (fun i hi => by
    match i, hi with
    | 0, _ => exact h) (fun i hi => by
    match i, hi with
    | 0, _ => exact small_leaf 1 false [] (by simp)) ⟨by simp, by simp, by simp⟩
theorem small_two {t : T} (h : Small t) : Small (.mk 3 false [] [⟨#[97]⟩, ⟨#[98]⟩] [.mk 1 false [] [] [], t]) := .mk (fun i hi => by
    match i, hi with
    | 0, _ => decide
    | 1, _ => decide) (fun i hi => by
    match i, hi with
    | 0, _ => exact small_leaf 1 false [] (by simp)
    | 1, _ => exact h) ⟨by simp, by simp, by simp⟩

set_option maxRecDepth 100000 in
set_option maxHeartbeats 4000000 in
theorem walk_RefsWhere (w : World) (d : List UInt8) (hd : d.length = 20) (wh dp : UInt8) (ahead : ByteArray) (hah : ahead.size ≤ 140737488355328) :
    Calls Try.prog 7 #[.agg (d.map Nam.bv).toArray, .int .u8 (wh.toNat : Int), .int .u8 (dp.toNat : Int), .string ahead] w fun e w' => e = .returned (.bool true) ∧ Below w.heap.size w w' := by
  obtain ⟨C, hC⟩ : ∃ C, C = (d.map Nam.bv).toArray := ⟨_, rfl⟩
  have i20 : Hid ((Try.prog.info? 38).map (·.size) = some C.size) := Lib.hid (by rw [hC, List.size_toArray, List.length_map, hd]; kernel_rfl)
  rw [← hC]
  have HC := Lib.hid hC
  have HD := Lib.hid hd
  clear hC hd
  go_enter Try.func7, Try.ntmps7
  go_upto_region 1 with fail
  obtain ⟨w1, hw1⟩ : ∃ w1, w1 = w.alloc (.cells C 38) := ⟨_, rfl⟩
  have g1 : Has w1 w.heap.size C.toList 38 := by rw [hw1]; exact Has.new w C.toList _
  have b1 : Below w.heap.size w w1 := by rw [hw1]; exact (Below.refl _ _).alloc (Nat.le_refl _) _
  rw [← hw1]
  obtain ⟨B0, hB0⟩ : ∃ B0, B0 = w.heap.size := ⟨_, rfl⟩
  have HB0 := Lib.hid hB0
  rw [← hB0] at g1 b1 ⊢
  have G1 := Lib.hid g1
  have B1 := Lib.hid b1
  have hs1 := g1.lt
  clear hw1 g1 b1 hB0
  go_wp2_with fail
  refine (awake_any w1).mono ?_
  rintro e w2 ⟨rfl, b2⟩
  have G2 := Lib.hid (G1.out.below b2 G1.out.lt)
  have B2 : Hid (Below B0 w w2) := Lib.hid (B1.out.trans (b2.mono (by omega)))
  have hs2 := G2.out.lt
  clear b2 G1 B1
  by_cases ha : ahead.size ≤ 20
  · have ha' : ¬ (20 : Int) < (ahead.size : Int) := by omega
    go_wp2_with (refine wpList_load_row rfl 38 _ rfl B0 rfl 38 C (0, 0) _ G2.out Try.underlying38 rfl i20.out ?_)
    rw [HC.out]
    refine (Nam.rpath_yes d ⟨#[112]⟩ w2 HD.out (by decide)).mono ?_
    rintro e w3 ⟨rfl, b3⟩
    obtain ⟨s, hs⟩ : ∃ s, s = Nam.pathB d ⟨#[112]⟩ := ⟨_, rfl⟩
    rw [← hs, ← HC.out]
    have hsz : s.size = 34 := by rw [hs, path_size _ _ HD.out]; rfl
    have HP : Hid (isP (btsOf s) = true) := Lib.hid (by rw [hs]; exact path_isP _ _ HD.out (by decide))
    have HKS : Hid (keyT (btsOf s) <:+: btsOf s) := Lib.hid (List.IsPrefix.isInfix (List.take_prefix _ _))
    have B3 : Hid (Below B0 w w3) := Lib.hid (B2.out.trans (b3.mono (by omega)))
    have hs3 : B0 < w3.heap.size := Nat.lt_of_lt_of_le hs2 b3.size
    have n1 : ¬ 9223372036854775807 < ahead.size + s.size := by omega
    have hcv : ∀ (S : ByteArray) (W : World), (convert 9 22 (.string S)).run Try.prog W = .ok (.slice (some ⟨W.heap.size, 0, none⟩) S.size (grownCap W S.size 0 5)) (Lib.bytesWorld W 5 S) := fun S W =>
      Lib.run_convert_string_bytes W _ _ _ S Try.underlying9 Try.underlying22 Try.underlying5
    have HSZ := Lib.hid hsz
    clear hs b3 hsz G2 B2
    go_upto_region 5 with fail
    obtain ⟨X, hX⟩ : ∃ X : ByteArray, X = ahead ++ s := ⟨_, rfl⟩
    have hXs : X.size = ahead.size + s.size := by rw [hX]; exact ByteArray.size_append
    have hXl : X.data.toList = ahead.data.toList ++ btsOf s := by rw [hX]; simp [ByteArray.data_append, btsOf]
    rw [← hX, ← hXs]
    have HXM : Hid (keyT (btsOf s) <:+: X.data.toList) := Lib.hid (by rw [hXl]; exact HKS.out.trans (List.IsSuffix.isInfix (List.suffix_append _ _)))
    have hXb : X.size ≤ 140737488355328 := by rw [hXs, HSZ.out]; omega
    have hXb2 : X.size ≤ 54 := by rw [hXs, HSZ.out]; omega
    obtain ⟨wB, hwB⟩ : ∃ wB, wB = Lib.bytesWorld w3 5 X := ⟨_, rfl⟩
    have hbB : Below w3.heap.size w3 wB := by rw [hwB]; exact below_bytes w3 X
    have hIB : IsB wB (some ⟨w3.heap.size, 0, none⟩) X.size (grownCap w3 X.size 0 5) X.data.toList := by rw [hwB]; exact convY_isB w3 X hXb
    have hzB : wB.heap.size = w3.heap.size + 1 := by rw [hwB]; exact Lib.bytesWorld_size _ _ _
    rw [← hwB]
    obtain ⟨P, hP⟩ : ∃ P, P = wB.heap.size := ⟨_, rfl⟩
    obtain ⟨cx, hcx⟩ : ∃ cx, cx = grownCap w3 X.size 0 5 := ⟨_, rfl⟩
    rw [← hcx] at hIB ⊢
    obtain ⟨w5, hw5⟩ : ∃ w5, w5 = wB.alloc (.cells #[.int .u8 1, .bool false, .slice (some ⟨w3.heap.size, 0, none⟩) X.size cx, .slice none 0 0, .slice none 0 0] 30) := ⟨_, rfl⟩
    rw [← hw5, ← hP]
    have hb5 : Below wB.heap.size wB w5 := by rw [hw5]; exact (Below.refl _ _).alloc (Nat.le_refl _) _
    have hg5 : Has w5 P [.int .u8 1, .bool false, .slice (some ⟨w3.heap.size, 0, none⟩) X.size cx, .slice none 0 0, .slice none 0 0] 30 := by rw [hw5, hP]; exact Has.new wB _ _
    have hst5 := stp_leaf (P := P) 1 (hIB.later hb5) (fun b off e => by
      have e2 : w3.heap.size = b := by injection e with e; injection e
      omega) 0
    have HG5 := Lib.hid hg5
    have HST5 := Lib.hid hst5
    have HB5 : Hid (Below B0 w w5) := Lib.hid ((B3.out.trans (hbB.mono (by omega))).trans (hb5.mono (by omega)))
    have hPB : B0 ≤ P := by omega
    have hP5 : P < w5.heap.size := hg5.lt
    have hwl := wh.toNat_lt
    have hdl := dp.toNat_lt
    have HX := Lib.hid hX
    clear hX hXl hwB hbB hIB hzB hP hcx hw5 hb5 hg5 hst5
    have e0 := HG5.out.cellAt (i := 0) rfl
    have e1 := HG5.out.cellAt (i := 1) rfl
    have e2 := HG5.out.cellAt (i := 2) rfl
    have e3 := HG5.out.cellAt (i := 3) rfl
    have e4 := HG5.out.cellAt (i := 4) rfl
    have z0 := HG5.out.frozen 0
    have z1 := HG5.out.frozen 1
    have z2 := HG5.out.frozen 2
    have z3 := HG5.out.frozen 3
    have z4 := HG5.out.frozen 4
    by_cases h1 : wh.toNat % 3 = 1
    · have m1 : (wh.toNat : Int) % 3 = 1 := by omega
      have m2 : ¬ (wh.toNat : Int) % 3 = 2 := by omega
      have hgb : ∀ S, Has (Lib.bytesWorld w5 5 S) P [.int .u8 1, .bool false, .slice (some ⟨w3.heap.size, 0, none⟩) X.size cx, .slice none 0 0, .slice none 0 0] 30 := fun S => (Lib.bytesWorld_at_old w5 _ S P hP5).trans HG5.out
      have y0 : ∀ S, (Lib.bytesWorld w5 5 S).cell? ⟨P, 0, none⟩ = _ := fun S => (hgb S).cellAt (i := 0) rfl
      have y1 : ∀ S, (Lib.bytesWorld w5 5 S).cell? ⟨P, 1, none⟩ = _ := fun S => (hgb S).cellAt (i := 1) rfl
      have y2 : ∀ S, (Lib.bytesWorld w5 5 S).cell? ⟨P, 2, none⟩ = _ := fun S => (hgb S).cellAt (i := 2) rfl
      have y3 : ∀ S, (Lib.bytesWorld w5 5 S).cell? ⟨P, 3, none⟩ = _ := fun S => (hgb S).cellAt (i := 3) rfl
      have y4 : ∀ S, (Lib.bytesWorld w5 5 S).cell? ⟨P, 4, none⟩ = _ := fun S => (hgb S).cellAt (i := 4) rfl
      have x0 : ∀ S, (Lib.bytesWorld w5 5 S).frozen? ⟨P, 0, none⟩ = false := fun S => (hgb S).frozen 0
      have x1 : ∀ S, (Lib.bytesWorld w5 5 S).frozen? ⟨P, 1, none⟩ = false := fun S => (hgb S).frozen 1
      have x2 : ∀ S, (Lib.bytesWorld w5 5 S).frozen? ⟨P, 2, none⟩ = false := fun S => (hgb S).frozen 2
      have x3 : ∀ S, (Lib.bytesWorld w5 5 S).frozen? ⟨P, 3, none⟩ = false := fun S => (hgb S).frozen 3
      have x4 : ∀ S, (Lib.bytesWorld w5 5 S).frozen? ⟨P, 4, none⟩ = false := fun S => (hgb S).frozen 4
      have HGB := Lib.hid hgb
      clear hgb
      go_upto_region 7 with fail
      obtain ⟨w6, hw6⟩ : ∃ w6, w6 = set5 (Lib.bytesWorld w5 5 (ahead ++ s)) P (.int .u8 2) (.bool false) (.slice (some ⟨w5.heap.size, 0, none⟩) (ahead.size + s.size) (grownCap w5 (ahead.size + s.size) 0 5)) (.slice none 0 0) (.slice none 0 0) := ⟨_, rfl⟩
      change Code.wp _ _ _ _ (set5 (Lib.bytesWorld w5 5 (ahead ++ s)) P (.int .u8 2) (.bool false) (.slice (some ⟨w5.heap.size, 0, none⟩) (ahead.size + s.size) (grownCap w5 (ahead.size + s.size) 0 5)) (.slice none 0 0) (.slice none 0 0))
      rw [← hw6]
      have hI6 := convY_isB w5 X hXb
      have hg6 : Has w6 P [.int .u8 2, .bool false, .slice (some ⟨w5.heap.size, 0, none⟩) X.size (grownCap w5 X.size 0 5), .slice none 0 0, .slice none 0 0] 30 := by rw [hw6, hXs]; exact set5_has (HGB.out _) _ _ _ _ _
      have hst6 : StP P w6 (0 + 1) [.int .u8 2, .bool false, .slice (some ⟨w5.heap.size, 0, none⟩) X.size (grownCap w5 X.size 0 5), .slice none 0 0, .slice none 0 0] (.mk 2 false X.data.toList [] []) := by
        have hne : ∀ b off, (some ⟨w5.heap.size, 0, none⟩ : Option Addr) = some ⟨b, off, none⟩ → b ≠ P := fun b off e => by
          have e2 : w5.heap.size = b := by injection e with e; injection e
          omega
        refine stp_leaf (P := P) 2 (isB_but hI6 ?_ hne) hne 0
        rw [hw6, ← HX.out]
        exact set5_but _ _ _ _ _ _ _ _
      have hb6 : Below B0 w w6 := by rw [hw6]; exact set5_below (HB5.out.trans ((below_bytes w5 _).mono (by omega))) hPB _ _ _ _ _
      have HGS := Lib.hid hg6
      have HSTS := Lib.hid hst6
      have HBS := Lib.hid hb6
      have HMS : Hid (MetT (.mk 2 false X.data.toList [] []) (keyT (btsOf s))) := Lib.hid (metT_mk.2 (.inl HXM.out))
      have HSMS : Hid (Small (.mk 2 false X.data.toList [] [])) := Lib.hid (small_leaf 2 false X.data.toList (by simp; omega))
      have HCS : Hid (cntT (.mk 2 false X.data.toList [] []) ≤ 3 + 2 * 0) := Lib.hid (by rw [cntT_mk]; simp [cntL])
      clear hw6 hI6 hg6 hst6 hb6 HG5 HST5 HB5 HGB e0 e1 e2 e3 e4 z0 z1 z2 z3 z4 x0 x1 x2 x3 x4 y0 y1 y2 y3 y4
      go_wp2_with fail
      obtain ⟨M, hM⟩ : ∃ M, M = dp.toNat % 14 := ⟨_, rfl⟩
      have hMi : (dp.toNat : Int) % 14 = (M : Int) := by omega
      have hM14 : M < 14 := by omega
      clear hM
      go_loopg [11] 14 (fun gk v11 wr => ∃ (i n : Nat) (c0 c1 c2 c3 c4 : Value) (tt : T), gk = 14 - i ∧ i ≤ M ∧ v11 = .int .i64 i ∧ Has wr P [c0, c1, c2, c3, c4] 30 ∧ StP P wr (n + 1) [c0, c1, c2, c3, c4] tt ∧ MetT tt (keyT (btsOf s)) ∧ Small tt ∧ cntT tt ≤ 3 + 2 * i ∧ Below B0 w wr)
      case atStart => exact ⟨0, 0, _, _, _, _, _, _, rfl, Nat.zero_le _, rfl, HGS.out, HSTS.out, HMS.out, HSMS.out, HCS.out, HBS.out⟩
      case round =>
        clear HGS HSTS HMS HSMS HCS HBS
        obtain ⟨i, n, c0, c1, c2, c3, c4, tt, rfl, hiM, rfl, hgP, hst, hmt, hsm, hcn, hbr⟩ := hrel
        have HGP := Lib.hid hgP
        have HST := Lib.hid hst
        have HMT := Lib.hid hmt
        have HSM := Lib.hid hsm
        have HBR := Lib.hid hbr
        have hPl := hgP.lt
        have e0 := hgP.cellAt (i := 0) rfl
        have e1 := hgP.cellAt (i := 1) rfl
        have e2 := hgP.cellAt (i := 2) rfl
        have e3 := hgP.cellAt (i := 3) rfl
        have e4 := hgP.cellAt (i := 4) rfl
        clear hgP hst hmt hsm hbr
        by_cases hlt : i < M
        · have hii : (i : Int) < (M : Int) := by omega
          have z0 := HGP.out.frozen 0
          have z1 := HGP.out.frozen 1
          have z2 := HGP.out.frozen 2
          have z3 := HGP.out.frozen 3
          have z4 := HGP.out.frozen 4
          go_wp2_with fail
          obtain ⟨w7, hw7⟩ : ∃ w7, w7 = ((set5 wr P (.int .u8 3) (.bool false) (.slice none 0 0) (.slice (some ⟨wr.heap.size, 0, none⟩) 2 2) (.slice (some ⟨wr.heap.size + 1, 0, none⟩) 2 2)).alloc (.cells #[.string ⟨#[97]⟩, .string ⟨#[98]⟩] 9)).alloc (.cells #[.int .u8 1, .bool false, .slice none 0 0, .slice none 0 0, .slice none 0 0, c0, c1, c2, c3, c4] 30) := ⟨_, rfl⟩
          change Handed _ _ _ (((set5 wr P (.int .u8 3) (.bool false) (.slice none 0 0) (.slice (some ⟨wr.heap.size, 0, none⟩) 2 2) (.slice (some ⟨wr.heap.size + 1, 0, none⟩) 2 2)).alloc (.cells #[.string ⟨#[97]⟩, .string ⟨#[98]⟩] 9)).alloc (.cells #[.int .u8 1, .bool false, .slice none 0 0, .slice none 0 0, .slice none 0 0, c0, c1, c2, c3, c4] 30))
          rw [← hw7]
          obtain ⟨hg7, hn7, hk7, hbt7, hb7⟩ := made_two HGP.out HBR.out hPB (by omega)
          rw [← hw7] at hg7 hn7 hk7 hbt7 hb7
          have HG7 := Lib.hid hg7
          have HN7 := Lib.hid hn7
          have HK7 := Lib.hid hk7
          have HB7 := Lib.hid hb7
          have HBT7 := Lib.hid hbt7
          clear hw7 hg7 hn7 hk7 hb7 hbt7
          have hst7 := stp_two (ns := [⟨#[97]⟩, ⟨#[98]⟩]) (nn := 2) (cn := 2) (an := some ⟨wr.heap.size, 0, none⟩) (HST.out.step HBT7.out) rfl (isS_two HN7.out) (fun b off e => by
            have e2 : wr.heap.size = b := by injection e with e; injection e
            omega) HK7.out (by omega)
          have HST7 := Lib.hid hst7
          clear hst7
          go_roundg (14 - (i + 1))
          case rel => exact ⟨i + 1, n + 1, _, _, _, _, _, _, rfl, by omega, by go_num, HG7.out, HST7.out, met_two HMT.out, small_two HSM.out, by rw [cnt_two]; omega, HB7.out⟩
          case measure => omega
        · obtain rfl : i = M := by omega
          have hii : ¬ (i : Int) < (i : Int) := by omega
          have HTT := Lib.hid HST.out.isT
          go_upto_region 13 with fail
          go_wp2_with fail
          refine (rform_any (n + 1) _ tt wr HTT.out HSM.out).mono ?_
          rintro e w8 ⟨rfl, b8⟩
          have HG8 := Lib.hid (HGP.out.below b8 hPl)
          have HB8 : Hid (Below B0 w w8) := Lib.hid (HBR.out.trans (b8.mono (by omega)))
          have HT8 := Lib.hid (IsT.later b8 _ _ _ HTT.out)
          have hP8 := HG8.out.lt
          have f0 := HG8.out.cellAt (i := 0) rfl
          have f1 := HG8.out.cellAt (i := 1) rfl
          have f2 := HG8.out.cellAt (i := 2) rfl
          have f3 := HG8.out.cellAt (i := 3) rfl
          have f4 := HG8.out.cellAt (i := 4) rfl
          clear b8 e0 e1 e2 e3 e4 HGP HST HBR HTT
          obtain ⟨ok, hok⟩ : ∃ ok, ok = (sizeT tt).isSome := ⟨_, rfl⟩
          rw [← hok]
          clear hok
          cases ok with
          | false =>
            go_wp2_with fail
            go_ret
            exact ⟨rfl, by rw [← HB0.out]; exact HB8.out⟩
          | true =>
            go_wp2_with fail
            have hb9 : Below w8.heap.size w8 (w8.alloc (.cells #[.string s] 9)) := (Below.refl _ _).alloc (Nat.le_refl _) _
            refine (tree_any (n + 1) _ tt _ 1 1 [s] _ (IsT.later hb9 _ _ _ HT8.out) HSM.out (by omega) (isS_one (Has.new w8 [.string s] 9)) (by decide)).mono ?_
            rintro e w10 ⟨v10, o10, rfl, hq10, ho10, hl10, b10⟩
            have hq : o10 = [s] := map_inj (by
              rw [hq10, List.map_cons, List.map_nil]
              exact ans_yes HP.out HMT.out)
            subst hq
            have HO10 := Lib.hid ho10
            have hb10 : Below w8.heap.size w8 w10 := hb9.trans (b10.mono hb9.size)
            have HG10 := Lib.hid (HG8.out.below hb10 hP8)
            have HB10 : Hid (Below B0 w w10) := Lib.hid (HB8.out.trans (hb10.mono (by omega)))
            have HT10 := Lib.hid (IsT.later hb10 _ _ _ HT8.out)
            have hP10 := HG10.out.lt
            clear hq10 ho10 b10 hb9 hb10 f0 f1 f2 f3 f4 HG8 HB8 HT8
            obtain ⟨va, vc, rfl⟩ := row_form2 HO10.out
            go_wp2_with fail
            have hb11 : Below w10.heap.size w10 (w10.alloc (.cells #[.string s] 9)) := (Below.refl _ _).alloc (Nat.le_refl _) _
            have hs10 := isS_of_owns HO10.out
            obtain ⟨xa, xc, ex, hx10, _⟩ := hs10
            have exa : va = xa := by injection ex
            have exc : vc = xc := by injection ex
            subst exa
            subst exc
            refine (rfsame_any _ _ 1 1 _ _ [s] [s] _ (hx10.later hb11) (isS_one (Has.new w10 [.string s] 9)) (by decide) (by decide)).mono ?_
            rintro e w12 ⟨bb, rfl, hbb, b12⟩
            obtain rfl : bb = true := hbb.2 rfl
            have hb12 : Below w10.heap.size w10 w12 := hb11.trans (b12.mono hb11.size)
            have HG12 := Lib.hid (HG10.out.below hb12 hP10)
            have HB12 : Hid (Below B0 w w12) := Lib.hid (HB10.out.trans (hb12.mono (by omega)))
            have HT12 := Lib.hid (IsT.later hb12 _ _ _ HT10.out)
            have hP12 := HG12.out.lt
            have f0 := HG12.out.cellAt (i := 0) rfl
            have f1 := HG12.out.cellAt (i := 1) rfl
            have f2 := HG12.out.cellAt (i := 2) rfl
            have f3 := HG12.out.cellAt (i := 3) rfl
            have f4 := HG12.out.cellAt (i := 4) rfl
            clear b12 hb11 hb12 hx10 ex hbb HG10 HB10 HT10 HO10
            go_wp2_with fail
            refine (tree_any (n + 1) _ tt none 0 0 [] w12 HT12.out HSM.out (by omega) (isS_nil w12) (by decide)).mono ?_
            rintro e w13 ⟨v13, o13, rfl, hq13, ho13, hl13, b13⟩
            obtain rfl : o13 = [] := List.eq_nil_of_length_eq_zero (by simpa using hl13)
            obtain ⟨ya, yc, rfl⟩ := row_form2 ho13
            have HB13 : Hid (Below B0 w w13) := Lib.hid (HB12.out.trans (b13.mono (by omega)))
            clear hq13 ho13 hl13 b13 f0 f1 f2 f3 f4
            go_wp2_with fail
            refine bodyPost_ret (results_tmp rfl _ _ _) rfl ?_
            exact ⟨rfl, by rw [← HB0.out]; exact HB13.out⟩
    · by_cases h2 : wh.toNat % 3 = 2
      · have m1 : ¬ (wh.toNat : Int) % 3 = 1 := by omega
        have m2 : (wh.toNat : Int) % 3 = 2 := by omega
        go_upto_region 9 with fail
        obtain ⟨w6, hw6⟩ : ∃ w6, w6 = ((set5 w5 P (.int .u8 3) (.bool false) (.slice none 0 0) (.slice (some ⟨w5.heap.size, 0, none⟩) 1 1) (.slice (some ⟨w5.heap.size + 1, 0, none⟩) 1 1)).alloc (.cells #[.string (ahead ++ s)] 9)).alloc (.cells #[.int .u8 1, .bool false, .slice none 0 0, .slice none 0 0, .slice none 0 0] 30) := ⟨_, rfl⟩
        change Code.wp _ _ _ _ (((set5 w5 P (.int .u8 3) (.bool false) (.slice none 0 0) (.slice (some ⟨w5.heap.size, 0, none⟩) 1 1) (.slice (some ⟨w5.heap.size + 1, 0, none⟩) 1 1)).alloc (.cells #[.string (ahead ++ s)] 9)).alloc (.cells #[.int .u8 1, .bool false, .slice none 0 0, .slice none 0 0, .slice none 0 0] 30))
        rw [← hw6]
        obtain ⟨hg6, hn6, hk6, hb6⟩ := made_one (ahead ++ s) HG5.out HB5.out hPB (by omega) (v0 := .int .u8 3) (v1 := .bool false) (v2 := .slice none 0 0) (v3 := .slice (some ⟨w5.heap.size, 0, none⟩) 1 1) (v4 := .slice (some ⟨w5.heap.size + 1, 0, none⟩) 1 1)
        rw [← hw6] at hg6 hn6 hk6 hb6
        rw [← HX.out] at hn6
        have hst6 := stp_one (P := P) (m := 0) (isS_one hn6) (fun b off e => by
          have e2 : w5.heap.size = b := by injection e with e; injection e
          omega) hk6 (by omega)
        have HGS := Lib.hid hg6
        have HSTS := Lib.hid hst6
        have HBS := Lib.hid hb6
        have HMS : Hid (MetT (.mk 3 false [] [X] [.mk 1 false [] [] []]) (keyT (btsOf s))) := Lib.hid (metT_mk.2 (.inr (.inl ⟨0, by simp, HXM.out⟩)))
        have HSMS : Hid (Small (.mk 3 false [] [X] [.mk 1 false [] [] []])) := Lib.hid (small_one hXb)
        have HCS : Hid (cntT (.mk 3 false [] [X] [.mk 1 false [] [] []]) ≤ 3 + 2 * 0) := Lib.hid (by rw [cntT_mk]; simp [cntL, cntT])
        clear hw6 hg6 hn6 hk6 hst6 hb6 HG5 HST5 HB5 e0 e1 e2 e3 e4 z0 z1 z2 z3 z4
        go_wp2_with fail
        obtain ⟨M, hM⟩ : ∃ M, M = dp.toNat % 14 := ⟨_, rfl⟩
        have hMi : (dp.toNat : Int) % 14 = (M : Int) := by omega
        have hM14 : M < 14 := by omega
        clear hM
        go_loopg [11] 14 (fun gk v11 wr => ∃ (i n : Nat) (c0 c1 c2 c3 c4 : Value) (tt : T), gk = 14 - i ∧ i ≤ M ∧ v11 = .int .i64 i ∧ Has wr P [c0, c1, c2, c3, c4] 30 ∧ StP P wr (n + 1) [c0, c1, c2, c3, c4] tt ∧ MetT tt (keyT (btsOf s)) ∧ Small tt ∧ cntT tt ≤ 3 + 2 * i ∧ Below B0 w wr)
        case atStart => exact ⟨0, 1, _, _, _, _, _, _, rfl, Nat.zero_le _, rfl, HGS.out, HSTS.out, HMS.out, HSMS.out, HCS.out, HBS.out⟩
        case round =>
          clear HGS HSTS HMS HSMS HCS HBS
          obtain ⟨i, n, c0, c1, c2, c3, c4, tt, rfl, hiM, rfl, hgP, hst, hmt, hsm, hcn, hbr⟩ := hrel
          have HGP := Lib.hid hgP
          have HST := Lib.hid hst
          have HMT := Lib.hid hmt
          have HSM := Lib.hid hsm
          have HBR := Lib.hid hbr
          have hPl := hgP.lt
          have e0 := hgP.cellAt (i := 0) rfl
          have e1 := hgP.cellAt (i := 1) rfl
          have e2 := hgP.cellAt (i := 2) rfl
          have e3 := hgP.cellAt (i := 3) rfl
          have e4 := hgP.cellAt (i := 4) rfl
          clear hgP hst hmt hsm hbr
          by_cases hlt : i < M
          · have hii : (i : Int) < (M : Int) := by omega
            have z0 := HGP.out.frozen 0
            have z1 := HGP.out.frozen 1
            have z2 := HGP.out.frozen 2
            have z3 := HGP.out.frozen 3
            have z4 := HGP.out.frozen 4
            go_wp2_with fail
            obtain ⟨w7, hw7⟩ : ∃ w7, w7 = ((set5 wr P (.int .u8 3) (.bool false) (.slice none 0 0) (.slice (some ⟨wr.heap.size, 0, none⟩) 2 2) (.slice (some ⟨wr.heap.size + 1, 0, none⟩) 2 2)).alloc (.cells #[.string ⟨#[97]⟩, .string ⟨#[98]⟩] 9)).alloc (.cells #[.int .u8 1, .bool false, .slice none 0 0, .slice none 0 0, .slice none 0 0, c0, c1, c2, c3, c4] 30) := ⟨_, rfl⟩
            change Handed _ _ _ (((set5 wr P (.int .u8 3) (.bool false) (.slice none 0 0) (.slice (some ⟨wr.heap.size, 0, none⟩) 2 2) (.slice (some ⟨wr.heap.size + 1, 0, none⟩) 2 2)).alloc (.cells #[.string ⟨#[97]⟩, .string ⟨#[98]⟩] 9)).alloc (.cells #[.int .u8 1, .bool false, .slice none 0 0, .slice none 0 0, .slice none 0 0, c0, c1, c2, c3, c4] 30))
            rw [← hw7]
            obtain ⟨hg7, hn7, hk7, hbt7, hb7⟩ := made_two HGP.out HBR.out hPB (by omega)
            rw [← hw7] at hg7 hn7 hk7 hbt7 hb7
            have HG7 := Lib.hid hg7
            have HN7 := Lib.hid hn7
            have HK7 := Lib.hid hk7
            have HB7 := Lib.hid hb7
            have HBT7 := Lib.hid hbt7
            clear hw7 hg7 hn7 hk7 hb7 hbt7
            have hst7 := stp_two (ns := [⟨#[97]⟩, ⟨#[98]⟩]) (nn := 2) (cn := 2) (an := some ⟨wr.heap.size, 0, none⟩) (HST.out.step HBT7.out) rfl (isS_two HN7.out) (fun b off e => by
              have e2 : wr.heap.size = b := by injection e with e; injection e
              omega) HK7.out (by omega)
            have HST7 := Lib.hid hst7
            clear hst7
            go_roundg (14 - (i + 1))
            case rel => exact ⟨i + 1, n + 1, _, _, _, _, _, _, rfl, by omega, by go_num, HG7.out, HST7.out, met_two HMT.out, small_two HSM.out, by rw [cnt_two]; omega, HB7.out⟩
            case measure => omega
          · obtain rfl : i = M := by omega
            have hii : ¬ (i : Int) < (i : Int) := by omega
            have HTT := Lib.hid HST.out.isT
            go_upto_region 13 with fail
            go_wp2_with fail
            refine (rform_any (n + 1) _ tt wr HTT.out HSM.out).mono ?_
            rintro e w8 ⟨rfl, b8⟩
            have HG8 := Lib.hid (HGP.out.below b8 hPl)
            have HB8 : Hid (Below B0 w w8) := Lib.hid (HBR.out.trans (b8.mono (by omega)))
            have HT8 := Lib.hid (IsT.later b8 _ _ _ HTT.out)
            have hP8 := HG8.out.lt
            have f0 := HG8.out.cellAt (i := 0) rfl
            have f1 := HG8.out.cellAt (i := 1) rfl
            have f2 := HG8.out.cellAt (i := 2) rfl
            have f3 := HG8.out.cellAt (i := 3) rfl
            have f4 := HG8.out.cellAt (i := 4) rfl
            clear b8 e0 e1 e2 e3 e4 HGP HST HBR HTT
            obtain ⟨ok, hok⟩ : ∃ ok, ok = (sizeT tt).isSome := ⟨_, rfl⟩
            rw [← hok]
            clear hok
            cases ok with
            | false =>
              go_wp2_with fail
              go_ret
              exact ⟨rfl, by rw [← HB0.out]; exact HB8.out⟩
            | true =>
              go_wp2_with fail
              have hb9 : Below w8.heap.size w8 (w8.alloc (.cells #[.string s] 9)) := (Below.refl _ _).alloc (Nat.le_refl _) _
              refine (tree_any (n + 1) _ tt _ 1 1 [s] _ (IsT.later hb9 _ _ _ HT8.out) HSM.out (by omega) (isS_one (Has.new w8 [.string s] 9)) (by decide)).mono ?_
              rintro e w10 ⟨v10, o10, rfl, hq10, ho10, hl10, b10⟩
              have hq : o10 = [s] := map_inj (by
                rw [hq10, List.map_cons, List.map_nil]
                exact ans_yes HP.out HMT.out)
              subst hq
              have HO10 := Lib.hid ho10
              have hb10 : Below w8.heap.size w8 w10 := hb9.trans (b10.mono hb9.size)
              have HG10 := Lib.hid (HG8.out.below hb10 hP8)
              have HB10 : Hid (Below B0 w w10) := Lib.hid (HB8.out.trans (hb10.mono (by omega)))
              have HT10 := Lib.hid (IsT.later hb10 _ _ _ HT8.out)
              have hP10 := HG10.out.lt
              clear hq10 ho10 b10 hb9 hb10 f0 f1 f2 f3 f4 HG8 HB8 HT8
              obtain ⟨va, vc, rfl⟩ := row_form2 HO10.out
              go_wp2_with fail
              have hb11 : Below w10.heap.size w10 (w10.alloc (.cells #[.string s] 9)) := (Below.refl _ _).alloc (Nat.le_refl _) _
              have hs10 := isS_of_owns HO10.out
              obtain ⟨xa, xc, ex, hx10, _⟩ := hs10
              have exa : va = xa := by injection ex
              have exc : vc = xc := by injection ex
              subst exa
              subst exc
              refine (rfsame_any _ _ 1 1 _ _ [s] [s] _ (hx10.later hb11) (isS_one (Has.new w10 [.string s] 9)) (by decide) (by decide)).mono ?_
              rintro e w12 ⟨bb, rfl, hbb, b12⟩
              obtain rfl : bb = true := hbb.2 rfl
              have hb12 : Below w10.heap.size w10 w12 := hb11.trans (b12.mono hb11.size)
              have HG12 := Lib.hid (HG10.out.below hb12 hP10)
              have HB12 : Hid (Below B0 w w12) := Lib.hid (HB10.out.trans (hb12.mono (by omega)))
              have HT12 := Lib.hid (IsT.later hb12 _ _ _ HT10.out)
              have hP12 := HG12.out.lt
              have f0 := HG12.out.cellAt (i := 0) rfl
              have f1 := HG12.out.cellAt (i := 1) rfl
              have f2 := HG12.out.cellAt (i := 2) rfl
              have f3 := HG12.out.cellAt (i := 3) rfl
              have f4 := HG12.out.cellAt (i := 4) rfl
              clear b12 hb11 hb12 hx10 ex hbb HG10 HB10 HT10 HO10
              go_wp2_with fail
              refine (tree_any (n + 1) _ tt none 0 0 [] w12 HT12.out HSM.out (by omega) (isS_nil w12) (by decide)).mono ?_
              rintro e w13 ⟨v13, o13, rfl, hq13, ho13, hl13, b13⟩
              obtain rfl : o13 = [] := List.eq_nil_of_length_eq_zero (by simpa using hl13)
              obtain ⟨ya, yc, rfl⟩ := row_form2 ho13
              have HB13 : Hid (Below B0 w w13) := Lib.hid (HB12.out.trans (b13.mono (by omega)))
              clear hq13 ho13 hl13 b13 f0 f1 f2 f3 f4
              go_wp2_with fail
              refine bodyPost_ret (results_tmp rfl _ _ _) rfl ?_
              exact ⟨rfl, by rw [← HB0.out]; exact HB13.out⟩
      · have m1 : ¬ (wh.toNat : Int) % 3 = 1 := by omega
        have m2 : ¬ (wh.toNat : Int) % 3 = 2 := by omega
        have m1' : ¬ (wh.toNat : Int).tmod 3 = 1 := by rw [Int.tmod_eq_emod_of_nonneg (by omega)]; omega
        have m2' : ¬ (wh.toNat : Int).tmod 3 = 2 := by rw [Int.tmod_eq_emod_of_nonneg (by omega)]; omega
        clear e0 e1 e2 e3 e4 z0 z1 z2 z3 z4
        have HGS := HG5
        have HSTS := HST5
        have HBS := HB5
        have HMS : Hid (MetT (.mk 1 false X.data.toList [] []) (keyT (btsOf s))) := Lib.hid (metT_mk.2 (.inl HXM.out))
        have HSMS : Hid (Small (.mk 1 false X.data.toList [] [])) := Lib.hid (small_leaf 1 false X.data.toList (by simp; omega))
        have HCS : Hid (cntT (.mk 1 false X.data.toList [] []) ≤ 3 + 2 * 0) := Lib.hid (by rw [cntT_mk]; simp [cntL])
        clear HG5 HST5 HB5
        go_wp2_with fail
        obtain ⟨M, hM⟩ : ∃ M, M = dp.toNat % 14 := ⟨_, rfl⟩
        have hMi : (dp.toNat : Int) % 14 = (M : Int) := by omega
        have hM14 : M < 14 := by omega
        clear hM
        go_loopg [11] 14 (fun gk v11 wr => ∃ (i n : Nat) (c0 c1 c2 c3 c4 : Value) (tt : T), gk = 14 - i ∧ i ≤ M ∧ v11 = .int .i64 i ∧ Has wr P [c0, c1, c2, c3, c4] 30 ∧ StP P wr (n + 1) [c0, c1, c2, c3, c4] tt ∧ MetT tt (keyT (btsOf s)) ∧ Small tt ∧ cntT tt ≤ 3 + 2 * i ∧ Below B0 w wr)
        case atStart => exact ⟨0, 0, _, _, _, _, _, _, rfl, Nat.zero_le _, rfl, HGS.out, HSTS.out, HMS.out, HSMS.out, HCS.out, HBS.out⟩
        case round =>
          clear HGS HSTS HMS HSMS HCS HBS
          obtain ⟨i, n, c0, c1, c2, c3, c4, tt, rfl, hiM, rfl, hgP, hst, hmt, hsm, hcn, hbr⟩ := hrel
          have HGP := Lib.hid hgP
          have HST := Lib.hid hst
          have HMT := Lib.hid hmt
          have HSM := Lib.hid hsm
          have HBR := Lib.hid hbr
          have hPl := hgP.lt
          have e0 := hgP.cellAt (i := 0) rfl
          have e1 := hgP.cellAt (i := 1) rfl
          have e2 := hgP.cellAt (i := 2) rfl
          have e3 := hgP.cellAt (i := 3) rfl
          have e4 := hgP.cellAt (i := 4) rfl
          clear hgP hst hmt hsm hbr
          by_cases hlt : i < M
          · have hii : (i : Int) < (M : Int) := by omega
            have z0 := HGP.out.frozen 0
            have z1 := HGP.out.frozen 1
            have z2 := HGP.out.frozen 2
            have z3 := HGP.out.frozen 3
            have z4 := HGP.out.frozen 4
            go_wp2_with fail
            obtain ⟨w7, hw7⟩ : ∃ w7, w7 = ((set5 wr P (.int .u8 3) (.bool false) (.slice none 0 0) (.slice (some ⟨wr.heap.size, 0, none⟩) 2 2) (.slice (some ⟨wr.heap.size + 1, 0, none⟩) 2 2)).alloc (.cells #[.string ⟨#[97]⟩, .string ⟨#[98]⟩] 9)).alloc (.cells #[.int .u8 1, .bool false, .slice none 0 0, .slice none 0 0, .slice none 0 0, c0, c1, c2, c3, c4] 30) := ⟨_, rfl⟩
            change Handed _ _ _ (((set5 wr P (.int .u8 3) (.bool false) (.slice none 0 0) (.slice (some ⟨wr.heap.size, 0, none⟩) 2 2) (.slice (some ⟨wr.heap.size + 1, 0, none⟩) 2 2)).alloc (.cells #[.string ⟨#[97]⟩, .string ⟨#[98]⟩] 9)).alloc (.cells #[.int .u8 1, .bool false, .slice none 0 0, .slice none 0 0, .slice none 0 0, c0, c1, c2, c3, c4] 30))
            rw [← hw7]
            obtain ⟨hg7, hn7, hk7, hbt7, hb7⟩ := made_two HGP.out HBR.out hPB (by omega)
            rw [← hw7] at hg7 hn7 hk7 hbt7 hb7
            have HG7 := Lib.hid hg7
            have HN7 := Lib.hid hn7
            have HK7 := Lib.hid hk7
            have HB7 := Lib.hid hb7
            have HBT7 := Lib.hid hbt7
            clear hw7 hg7 hn7 hk7 hb7 hbt7
            have hst7 := stp_two (ns := [⟨#[97]⟩, ⟨#[98]⟩]) (nn := 2) (cn := 2) (an := some ⟨wr.heap.size, 0, none⟩) (HST.out.step HBT7.out) rfl (isS_two HN7.out) (fun b off e => by
              have e2 : wr.heap.size = b := by injection e with e; injection e
              omega) HK7.out (by omega)
            have HST7 := Lib.hid hst7
            clear hst7
            go_roundg (14 - (i + 1))
            case rel => exact ⟨i + 1, n + 1, _, _, _, _, _, _, rfl, by omega, by go_num, HG7.out, HST7.out, met_two HMT.out, small_two HSM.out, by rw [cnt_two]; omega, HB7.out⟩
            case measure => omega
          · obtain rfl : i = M := by omega
            have hii : ¬ (i : Int) < (i : Int) := by omega
            have HTT := Lib.hid HST.out.isT
            go_upto_region 13 with fail
            go_wp2_with fail
            refine (rform_any (n + 1) _ tt wr HTT.out HSM.out).mono ?_
            rintro e w8 ⟨rfl, b8⟩
            have HG8 := Lib.hid (HGP.out.below b8 hPl)
            have HB8 : Hid (Below B0 w w8) := Lib.hid (HBR.out.trans (b8.mono (by omega)))
            have HT8 := Lib.hid (IsT.later b8 _ _ _ HTT.out)
            have hP8 := HG8.out.lt
            have f0 := HG8.out.cellAt (i := 0) rfl
            have f1 := HG8.out.cellAt (i := 1) rfl
            have f2 := HG8.out.cellAt (i := 2) rfl
            have f3 := HG8.out.cellAt (i := 3) rfl
            have f4 := HG8.out.cellAt (i := 4) rfl
            clear b8 e0 e1 e2 e3 e4 HGP HST HBR HTT
            obtain ⟨ok, hok⟩ : ∃ ok, ok = (sizeT tt).isSome := ⟨_, rfl⟩
            rw [← hok]
            clear hok
            cases ok with
            | false =>
              go_wp2_with fail
              go_ret
              exact ⟨rfl, by rw [← HB0.out]; exact HB8.out⟩
            | true =>
              go_wp2_with fail
              have hb9 : Below w8.heap.size w8 (w8.alloc (.cells #[.string s] 9)) := (Below.refl _ _).alloc (Nat.le_refl _) _
              refine (tree_any (n + 1) _ tt _ 1 1 [s] _ (IsT.later hb9 _ _ _ HT8.out) HSM.out (by omega) (isS_one (Has.new w8 [.string s] 9)) (by decide)).mono ?_
              rintro e w10 ⟨v10, o10, rfl, hq10, ho10, hl10, b10⟩
              have hq : o10 = [s] := map_inj (by
                rw [hq10, List.map_cons, List.map_nil]
                exact ans_yes HP.out HMT.out)
              subst hq
              have HO10 := Lib.hid ho10
              have hb10 : Below w8.heap.size w8 w10 := hb9.trans (b10.mono hb9.size)
              have HG10 := Lib.hid (HG8.out.below hb10 hP8)
              have HB10 : Hid (Below B0 w w10) := Lib.hid (HB8.out.trans (hb10.mono (by omega)))
              have HT10 := Lib.hid (IsT.later hb10 _ _ _ HT8.out)
              have hP10 := HG10.out.lt
              clear hq10 ho10 b10 hb9 hb10 f0 f1 f2 f3 f4 HG8 HB8 HT8
              obtain ⟨va, vc, rfl⟩ := row_form2 HO10.out
              go_wp2_with fail
              have hb11 : Below w10.heap.size w10 (w10.alloc (.cells #[.string s] 9)) := (Below.refl _ _).alloc (Nat.le_refl _) _
              have hs10 := isS_of_owns HO10.out
              obtain ⟨xa, xc, ex, hx10, _⟩ := hs10
              have exa : va = xa := by injection ex
              have exc : vc = xc := by injection ex
              subst exa
              subst exc
              refine (rfsame_any _ _ 1 1 _ _ [s] [s] _ (hx10.later hb11) (isS_one (Has.new w10 [.string s] 9)) (by decide) (by decide)).mono ?_
              rintro e w12 ⟨bb, rfl, hbb, b12⟩
              obtain rfl : bb = true := hbb.2 rfl
              have hb12 : Below w10.heap.size w10 w12 := hb11.trans (b12.mono hb11.size)
              have HG12 := Lib.hid (HG10.out.below hb12 hP10)
              have HB12 : Hid (Below B0 w w12) := Lib.hid (HB10.out.trans (hb12.mono (by omega)))
              have HT12 := Lib.hid (IsT.later hb12 _ _ _ HT10.out)
              have hP12 := HG12.out.lt
              have f0 := HG12.out.cellAt (i := 0) rfl
              have f1 := HG12.out.cellAt (i := 1) rfl
              have f2 := HG12.out.cellAt (i := 2) rfl
              have f3 := HG12.out.cellAt (i := 3) rfl
              have f4 := HG12.out.cellAt (i := 4) rfl
              clear b12 hb11 hb12 hx10 ex hbb HG10 HB10 HT10 HO10
              go_wp2_with fail
              refine (tree_any (n + 1) _ tt none 0 0 [] w12 HT12.out HSM.out (by omega) (isS_nil w12) (by decide)).mono ?_
              rintro e w13 ⟨v13, o13, rfl, hq13, ho13, hl13, b13⟩
              obtain rfl : o13 = [] := List.eq_nil_of_length_eq_zero (by simpa using hl13)
              obtain ⟨ya, yc, rfl⟩ := row_form2 ho13
              have HB13 : Hid (Below B0 w w13) := Lib.hid (HB12.out.trans (b13.mono (by omega)))
              clear hq13 ho13 hl13 b13 f0 f1 f2 f3 f4
              go_wp2_with fail
              refine bodyPost_ret (results_tmp rfl _ _ _) rfl ?_
              exact ⟨rfl, by rw [← HB0.out]; exact HB13.out⟩
  · have ha' : (20 : Int) < (ahead.size : Int) := by omega
    go_wp2_with fail
    refine (awake_any w2).mono ?_
    rintro e w9 ⟨rfl, b9⟩
    have B9 : Hid (Below B0 w w9) := Lib.hid (B2.out.trans (b9.mono (by omega)))
    clear b9
    go_wp2_with fail
    refine bodyPost_ret (results_tmp rfl _ _ _) rfl ?_
    exact ⟨rfl, by rw [← HB0.out]; exact B9.out⟩

end Go.Proofs.Ytcmgafehidgkmaa
