/-
  What the reference's reader tells is small. No program text.
-/
import Derived.Test.YthjihibocobndaaNROMath
import Derived.Test.YthjihibocobndaaNRDirI
import Derived.Deep.RegionHeld3
import Derived.Test.YthjihibocobndaaNReadL
namespace Go.Proofs.Ythjihibocobndaa
open Go.RowKit
set_option linter.unusedVariables false

theorem nextO_rem (o : Option (List UInt8)) : remO (nextO o).2 ≤ remO o := by have := nextO_len o; omega
theorem nextO_size (o : Option (List UInt8)) : (nextO o).1.length ≤ remO o := by have := nextO_len o; omega
theorem fileO_len (o : Option (List UInt8)) : remO (fileO o).2 ≤ remO o := by
  unfold fileO
  have h1 := wantO_len [sClose] (nextO (wantO [sContents] (if (wantO [sExec, []] o).isSome then wantO [sExec, []] o else o))).2
  have h2 := nextO_rem (wantO [sContents] (if (wantO [sExec, []] o).isSome then wantO [sExec, []] o else o))
  have h3 := wantO_len [sContents] (if (wantO [sExec, []] o).isSome then wantO [sExec, []] o else o)
  have h4 : remO (if (wantO [sExec, []] o).isSome then wantO [sExec, []] o else o) ≤ remO o := by
    split
    · exact wantO_len _ _
    · exact Nat.le_refl _
  simp only []
  omega
theorem linkO_len (o : Option (List UInt8)) : remO (linkO o).2 ≤ remO o := by
  unfold linkO
  have h1 := wantO_len [sClose] (nextO (wantO [sTarget] o)).2
  have h2 := nextO_rem (wantO [sTarget] o)
  have h3 := wantO_len [sTarget] o
  simp only []
  omega
theorem entO_len (f : Option (List UInt8) → T × Option (List UInt8)) (hf : ∀ o, remO (f o).2 ≤ remO o) (r : List UInt8) :
    remO (entO f (some r)).2.2 + 1 ≤ remO (some r) ∧ (entO f (some r)).1.size ≤ remO (some r) := by
  have h1 : remO (wantO [sEntry, sOpen, sName] (some r)) + 1 ≤ remO (some r) := by
    rcases wantO_less sEntry [sOpen, sName] r with h | h
    · omega
    · rw [h]; show 0 + 1 ≤ r.length + 1; omega
  have h2 := nextO_rem (wantO [sEntry, sOpen, sName] (some r))
  have h2' := nextO_size (wantO [sEntry, sOpen, sName] (some r))
  have h3 := wantO_len [sNode] (nextO (wantO [sEntry, sOpen, sName] (some r))).2
  unfold entO
  simp only []
  constructor
  · generalize wantO [sNode] (nextO (wantO [sEntry, sOpen, sName] (some r))).2 = oc at *
    have h4 : remO (if oc.isSome = true then f oc else (zT, none)).2 ≤ remO oc := by
      split
      · exact hf oc
      · exact Nat.zero_le _
    have h5 := wantO_len [sClose] (if oc.isSome = true then f oc else (zT, none)).2
    omega
  · show (⟨(nextO (wantO [sEntry, sOpen, sName] (some r))).1.toArray⟩ : ByteArray).data.size ≤ _
    rw [List.size_toArray]; omega
theorem onO_some {o : Option (List UInt8)} (h : onO o = true) : ∃ r, o = some r := by
  cases o with
  | none => simp [onO] at h
  | some r => exact ⟨r, rfl⟩
theorem dirO_len (f : Option (List UInt8) → T × Option (List UInt8)) (hf : ∀ o, remO (f o).2 ≤ remO o) : ∀ (m : Nat) (ns : List ByteArray) (ks : List T) (o : Option (List UInt8)), remO (dirO f m ns ks o).2 ≤ remO o
  | 0, _, _, _ => by rw [dirO]; exact Nat.zero_le _
  | m + 1, ns, ks, o => by
    rw [dirO]
    split
    · rename_i h
      obtain ⟨r, rfl⟩ := onO_some h
      have h1 := (entO_len f hf r).1
      have h2 := dirO_len f hf m (ns ++ [(entO f (some r)).1]) (ks ++ [(entO f (some r)).2.1]) (entO f (some r)).2.2
      omega
    · exact wantO_len _ _
theorem rtO_len : ∀ (n : Nat) (o : Option (List UInt8)), remO (rtO n o).2 ≤ remO o
  | 0, o => by rw [rtO]; exact Nat.zero_le _
  | n + 1, o => by
    have h1 := nextO_rem (wantO [sOpen, sType] o)
    have h2 := wantO_len [sOpen, sType] o
    rw [rtO]
    split
    · exact Nat.zero_le _
    · split
      · have := fileO_len (nextO (wantO [sOpen, sType] o)).2; omega
      · split
        · have := linkO_len (nextO (wantO [sOpen, sType] o)).2; omega
        · split
          · have := dirO_len (rtO n) (rtO_len n) (remO (nextO (wantO [sOpen, sType] o)).2 + 1) [] [] (nextO (wantO [sOpen, sType] o)).2; omega
          · exact Nat.zero_le _

theorem small_leaf (k : UInt8) (x : Bool) (d : List UInt8) (h : d.length ≤ 1000001) : Small (.mk k x d [] []) :=
  .mk (fun i hi => by simp at hi) (fun i hi => by simp at hi) ⟨by omega, by simp, by simp⟩
theorem small_zT : Small zT := small_leaf 0 false [] (by simp)
theorem fileO_small (o : Option (List UInt8)) (h : remO o ≤ 1000001) : Small (fileO o).1 := by
  unfold fileO
  refine small_leaf _ _ _ ?_
  have h2 := nextO_size (wantO [sContents] (if (wantO [sExec, []] o).isSome then wantO [sExec, []] o else o))
  have h3 := wantO_len [sContents] (if (wantO [sExec, []] o).isSome then wantO [sExec, []] o else o)
  have h4 : remO (if (wantO [sExec, []] o).isSome then wantO [sExec, []] o else o) ≤ remO o := by
    split
    · exact wantO_len _ _
    · exact Nat.le_refl _
  omega
theorem linkO_small (o : Option (List UInt8)) (h : remO o ≤ 1000001) : Small (linkO o).1 := by
  unfold linkO
  refine small_leaf _ _ _ ?_
  have h2 := nextO_size (wantO [sTarget] o)
  have h3 := wantO_len [sTarget] o
  omega
theorem small_dir (ns : List ByteArray) (ks : List T) (hn : ∀ i, i < ns.length → (ns.getD i ⟨#[]⟩).size ≤ 1000001) (hk : ∀ i, i < ks.length → Small (ks.getD i default)) (hl : ns.length = ks.length) (hc : ns.length ≤ 1000001) : Small (.mk 3 false [] ns ks) :=
  .mk (fun i hi => by have := hn i hi; omega) hk ⟨by simp, by omega, by omega⟩
theorem dirO_small (f : Option (List UInt8) → T × Option (List UInt8)) (hf : ∀ o, remO (f o).2 ≤ remO o) (hs : ∀ o, remO o ≤ 1000001 → Small (f o).1) : ∀ (m : Nat) (ns : List ByteArray) (ks : List T) (o : Option (List UInt8)),
    (∀ i, i < ns.length → (ns.getD i ⟨#[]⟩).size ≤ 1000001) → (∀ i, i < ks.length → Small (ks.getD i default)) → ns.length = ks.length → ns.length + remO o ≤ 1000001 → Small (dirO f m ns ks o).1
  | 0, ns, ks, o, hn, hk, hl, hc => by rw [dirO]; exact small_dir ns ks hn hk hl (by omega)
  | m + 1, ns, ks, o, hn, hk, hl, hc => by
    rw [dirO]
    split
    · rename_i h
      obtain ⟨r, rfl⟩ := onO_some h
      have h1 := entO_len f hf r
      refine dirO_small f hf hs m _ _ _ (fun i hi => ?_) (fun i hi => ?_) (by simp [hl]) (by rw [List.length_append, List.length_singleton]; omega)
      · rw [List.length_append, List.length_singleton] at hi
        rcases Nat.lt_or_ge i ns.length with h' | h'
        · rw [List.getD_eq_getElem?_getD, List.getElem?_append_left h', ← List.getD_eq_getElem?_getD]; exact hn i h'
        · obtain rfl : i = ns.length := by omega
          rw [List.getD_eq_getElem?_getD, List.getElem?_append_right (Nat.le_refl _), Nat.sub_self]
          show (entO f (some r)).1.size ≤ 1000001
          omega
      · rw [List.length_append, List.length_singleton] at hi
        rcases Nat.lt_or_ge i ks.length with h' | h'
        · rw [List.getD_eq_getElem?_getD, List.getElem?_append_left h', ← List.getD_eq_getElem?_getD]; exact hk i h'
        · obtain rfl : i = ks.length := by omega
          rw [List.getD_eq_getElem?_getD, List.getElem?_append_right (Nat.le_refl _), Nat.sub_self]
          show Small (entO f (some r)).2.1
          unfold entO
          simp only []
          have h2 := nextO_rem (wantO [sEntry, sOpen, sName] (some r))
          have h3 := wantO_len [sNode] (nextO (wantO [sEntry, sOpen, sName] (some r))).2
          have h4 := wantO_len [sEntry, sOpen, sName] (some r)
          split
          · exact hs _ (by omega)
          · exact small_zT
    · exact small_dir ns ks hn hk hl (by omega)
theorem rtO_small : ∀ (n : Nat) (o : Option (List UInt8)), remO o ≤ 1000001 → Small (rtO n o).1
  | 0, o, _ => by rw [rtO]; exact small_zT
  | n + 1, o, h => by
    have h1 := nextO_rem (wantO [sOpen, sType] o)
    have h2 := wantO_len [sOpen, sType] o
    rw [rtO]
    split
    · exact small_zT
    · split
      · exact fileO_small _ (by omega)
      · split
        · exact linkO_small _ (by omega)
        · split
          · exact dirO_small (rtO n) (rtO_len n) (rtO_small n) _ [] [] _ (fun i hi => by simp at hi) (fun i hi => by simp at hi) rfl (by simp; omega)
          · exact small_zT

end Go.Proofs.Ythjihibocobndaa

namespace Go.Proofs.Ythjihibocobndaa
open Go.RowKit
set_option linter.unusedVariables false

theorem cells_one5 (k : Int) (x : Bool) (a : Option Addr) (n c : Nat) (a' : Option Addr) (n' c' : Nat) (a'' : Option Addr) (n'' c'' : Nat) : ([.int .u8 k, .bool x, .slice a n c, .slice a' n' c', .slice a'' n'' c''] : List Value).toArray.all (·.oneCell') = true := by
  refine all_oneCell_toArray ?_
  intro v hv
  simp only [List.mem_cons, List.not_mem_nil, or_false] at hv
  rcases hv with rfl | rfl | rfl | rfl | rfl <;> rfl
theorem heap_setRow_other (w : World) (g k : Nat) (cs : Array Value) (h : k ≠ g) : (w.setRow g cs).heap[k]? = w.heap[k]? := by
  simp [World.setRow, Array.getElem?_modify, Ne.symm h]

set_option maxRecDepth 100000 in
set_option maxHeartbeats 16000000 in
theorem rt_none (a : Option Addr) (n cap : Nat) (R : List UInt8) (w : World) (hB : IsB w a n cap R) (h9 : R.length ≤ 1000000) (o : Option (List UInt8)) (ho : At R o) (dep : Nat) (hq : (nextO (wantO [sOpen, sType] o)).2 = none) :
    Calls Try.prog 23 #[.slice a n cap, .int .i64 (posI R o), .int .i64 (dep : Int)] w (RTreeV R (zT, none) w) := by
  have HB := Lib.hid hB
  have H9 := Lib.hid h9
  have HO := Lib.hid ho
  clear hB h9 ho
  have HQ := Lib.hid hq
  clear hq
  go_enter Try.func23, Try.ntmps23
  go_upto_region 2 with fail
  obtain ⟨A, hA⟩ : ∃ A, A = w.heap.size := ⟨_, rfl⟩
  rw [← hA]
  obtain ⟨x1, hx1⟩ : ∃ x1, x1 = w.alloc (.cells #[.int .u8 0, .bool false, .slice none 0 0, .slice none 0 0, .slice none 0 0] 26) := ⟨_, rfl⟩
  obtain ⟨w1, hx2⟩ : ∃ x2, x2 = x1.alloc (.cells #[.int .u8 0, .bool false, .slice none 0 0, .slice none 0 0, .slice none 0 0] 26) := ⟨_, rfl⟩
  rw [← hx1, ← hx2]
  have e1 : x1.heap.size = A + 1 := by rw [hx1, hA]; simp
  have G1 : Hid (Has w1 A zeroL 26) := Lib.hid (by rw [hx2, hx1, hA]; exact (Has.new w zeroL _).alloc _)
  have X1 : Hid (Has w1 (A + 1) [.int .u8 0, .bool false, .slice none 0 0, .slice none 0 0, .slice none 0 0] 26) := Lib.hid (by rw [hx2, ← e1]; exact Has.new x1 zeroL _)
  have B1 : Hid (Below w.heap.size w w1) := Lib.hid (by rw [hx2, hx1]; exact ((Below.refl _ _).alloc (Nat.le_refl _) _).alloc (by simp) _)
  try rw [e1]
  have HA := Lib.hid hA
  clear hA hx1 hx2 e1
  go_wp2_with fail
  refine (rwant_2s ⟨#[40]⟩ ⟨#[116, 121, 112, 101]⟩ sOpen sType rfl rfl w1 (HB.out.later B1.out) H9.out HO.out).mono ?_
  rintro e w2 ⟨rfl, b2⟩
  have G2 := Lib.hid (G1.out.below b2 G1.out.lt)
  have X2 := Lib.hid (X1.out.below b2 X1.out.lt)
  have B2 := Lib.hid (B1.out.trans (b2.mono B1.out.size))
  clear b2 G1 X1 B1
  have hk := rnext_any a n cap R w2 (HB.out.later B2.out) H9.out (wantO [sOpen, sType] o) (HO.out.skip _)
  rw [HQ.out] at hk
  rw [show posI R none = -1 from rfl] at hk
  have HK := Lib.hid hk
  clear hk
  go_wp2_with fail
  refine HK.out.mono ?_
  rintro e w3 ⟨rfl, b3⟩
  clear HK
  have G3 := Lib.hid (G2.out.below b3 G2.out.lt)
  have X3 := Lib.hid (X2.out.below b3 X2.out.lt)
  have B3 := Lib.hid (B2.out.trans (b3.mono B2.out.size))
  clear b3 G2 X2 B2
  obtain ⟨LZ, hLZ⟩ : ∃ L, L = zeroL := ⟨_, rfl⟩
  have hI0 : (Try.prog.info? 26).map (·.size) = some LZ.toArray.size := by rw [hLZ, info5]; rfl
  have hO0 : LZ.toArray.all (·.oneCell') = true := by rw [hLZ]; exact cells_one _ _ _ _ _
  have hZ0 : zeroL.toArray.size = LZ.toArray.size := by rw [hLZ]
  have HI0 := Lib.hid hI0
  have HO0 := Lib.hid hO0
  have HZ0 := Lib.hid hZ0
  have XZ : Hid (w3.heap[A + 1]? = some (.cells LZ.toArray 26 (0, 0))) := Lib.hid (by rw [hLZ]; exact X3.out)
  have GZ : Hid (w3.heap[A]? = some (.cells zeroL.toArray 26 (0, 0))) := Lib.hid G3.out
  have HLZ := Lib.hid hLZ
  clear hLZ hI0 hO0 hZ0 X3 G3
  go_wp2_with (first
    | (refine wpList_load_rowG (by rfl) 26 _ rfl (A + 1) rfl 26 LZ.toArray (0, 0) _ XZ.out Try.underlying26 rfl HI0.out ?_)
    | (refine wpList_store_row rfl 26 _ _ rfl A LZ.toArray rfl rfl 26 _ GZ.out HI0.out HZ0.out HO0.out ?_))
  try simp only [Exit.inBlock, Exit.then]
  refine bodyPost_ret (results_cell_tmp (p := 6) (u := 7) (ty := 26) Try.results23 _ _ A 26 LZ.toArray (0, 0) _ rfl (setRow_heap _ _ _ _ _ _ GZ.out) Try.underlying26 rfl HI0.out) rfl ?_
  exact ⟨1, LZ, rfl, by rw [HLZ.out]; exact zeroR _ _, below_setRow B3.out (by have := HA.out; omega) _⟩

set_option maxRecDepth 100000 in
set_option maxHeartbeats 16000000 in
theorem rt_link (a : Option Addr) (n cap : Nat) (R : List UInt8) (w : World) (hB : IsB w a n cap R) (h9 : R.length ≤ 1000000) (o : Option (List UInt8)) (ho : At R o) (dep : Nat) (hd : dep ≤ 16) (r1 : List UInt8) (hq : nextO (wantO [sOpen, sType] o) = (sSymlink, some r1)) :
    Calls Try.prog 23 #[.slice a n cap, .int .i64 (posI R o), .int .i64 (dep : Int)] w (RTreeV R (linkO (some r1)) w) := by
  have HB := Lib.hid hB
  have H9 := Lib.hid h9
  have HO := Lib.hid ho
  clear hB h9 ho
  have HQ := Lib.hid hq
  have h16 : ¬ (16 : Int) < (dep : Int) := by omega
  clear hq
  go_enter Try.func23, Try.ntmps23
  go_upto_region 2 with fail
  obtain ⟨A, hA⟩ : ∃ A, A = w.heap.size := ⟨_, rfl⟩
  rw [← hA]
  obtain ⟨x1, hx1⟩ : ∃ x1, x1 = w.alloc (.cells #[.int .u8 0, .bool false, .slice none 0 0, .slice none 0 0, .slice none 0 0] 26) := ⟨_, rfl⟩
  obtain ⟨w1, hx2⟩ : ∃ x2, x2 = x1.alloc (.cells #[.int .u8 0, .bool false, .slice none 0 0, .slice none 0 0, .slice none 0 0] 26) := ⟨_, rfl⟩
  rw [← hx1, ← hx2]
  have e1 : x1.heap.size = A + 1 := by rw [hx1, hA]; simp
  have G1 : Hid (Has w1 A zeroL 26) := Lib.hid (by rw [hx2, hx1, hA]; exact (Has.new w zeroL _).alloc _)
  have X1 : Hid (Has w1 (A + 1) [.int .u8 0, .bool false, .slice none 0 0, .slice none 0 0, .slice none 0 0] 26) := Lib.hid (by rw [hx2, ← e1]; exact Has.new x1 zeroL _)
  have B1 : Hid (Below w.heap.size w w1) := Lib.hid (by rw [hx2, hx1]; exact ((Below.refl _ _).alloc (Nat.le_refl _) _).alloc (by simp) _)
  try rw [e1]
  have HA := Lib.hid hA
  clear hA hx1 hx2 e1
  go_wp2_with fail
  refine (rwant_2s ⟨#[40]⟩ ⟨#[116, 121, 112, 101]⟩ sOpen sType rfl rfl w1 (HB.out.later B1.out) H9.out HO.out).mono ?_
  rintro e w2 ⟨rfl, b2⟩
  have G2 := Lib.hid (G1.out.below b2 G1.out.lt)
  have X2 := Lib.hid (X1.out.below b2 X1.out.lt)
  have B2 := Lib.hid (B1.out.trans (b2.mono B1.out.size))
  clear b2 G1 X1 B1
  have HA1 : Hid (At R (some r1)) := Lib.hid (by have := (HO.out.skip [sOpen, sType]).next; rw [HQ.out] at this; exact this)
  have hk := rnext_any a n cap R w2 (HB.out.later B2.out) H9.out (wantO [sOpen, sType] o) (HO.out.skip _)
  rw [HQ.out] at hk
  have HK := Lib.hid hk
  clear hk
  go_wp2_with fail
  refine HK.out.mono ?_
  rintro e w3 ⟨rfl, b3⟩
  clear HK
  have G3 := Lib.hid (G2.out.below b3 G2.out.lt)
  have X3 := Lib.hid (X2.out.below b3 X2.out.lt)
  have B3 := Lib.hid (B2.out.trans (b3.mono B2.out.size))
  clear b3 G2 X2 B2
  obtain ⟨sx, hsx⟩ : ∃ s : ByteArray, s = ⟨sSymlink.toArray⟩ := ⟨_, rfl⟩
  rw [← hsx]
  have hsx2 : sx.toList = sSymlink := by rw [hsx, ByteArray.toList_eq]
  have t1 : (sx.toList == [114, 101, 103, 117, 108, 97, 114]) = false := by rw [hsx2]; decide
  have t2 : (sx.toList == [115, 121, 109, 108, 105, 110, 107]) = true := by rw [hsx2]; decide
  obtain ⟨k1, hk1⟩ : ∃ k, k = posI R (some r1) := ⟨_, rfl⟩
  have hk0 : ¬ k1 < 0 := by rw [hk1]; exact posI_some
  rw [← hk1]
  have HK1 := Lib.hid hk1
  clear hsx hsx2 hk1
  have hc0 := X3.out.cellAt (i := 0) rfl
  have hf0 := X3.out.frozen 0
  go_upto_region 19 with fail
  clear t1 t2 hk0
  obtain ⟨w4, hw⟩ : ∃ x, x = w3.setCell ⟨A + 1, 0, none⟩ (.int .u8 2) := ⟨_, rfl⟩
  have X4 : Hid (Has w4 (A + 1) [.int .u8 2, .bool false, .slice none 0 0, .slice none 0 0, .slice none 0 0] 26) := Lib.hid (by rw [hw]; exact X3.out.set 0 _)
  have G4 : Hid (Has w4 A zeroL 26) := Lib.hid (by rw [hw]; exact G3.out.setOther (a := ⟨A + 1, 0, none⟩) (by show A ≠ A + 1; omega) _)
  have B4 : Hid (Below w.heap.size w w4) := Lib.hid (by rw [hw]; exact B3.out.setCell (p := ⟨A + 1, 0, none⟩) (by show w.heap.size ≤ A + 1; have := HA.out; omega) _)
  rw [← hw]
  clear hw hc0 hf0 G3 X3 B3
  rw [HK1.out]
  go_wp2_with fail
  refine (rwant_1s ⟨#[116, 97, 114, 103, 101, 116]⟩ sTarget rfl w4 (HB.out.later B4.out) H9.out HA1.out).mono ?_
  rintro e w5 ⟨rfl, b5⟩
  have G5 := Lib.hid (G4.out.below b5 G4.out.lt)
  have X5 := Lib.hid (X4.out.below b5 X4.out.lt)
  have B5 := Lib.hid (B4.out.trans (b5.mono B4.out.size))
  clear b5 G4 X4 B4
  have hk := rnext_any a n cap R w5 (HB.out.later B5.out) H9.out (wantO [sTarget] (some r1)) (HA1.out.skip _)
  have HK := Lib.hid hk
  clear hk
  go_wp2_with fail
  refine HK.out.mono ?_
  rintro e w6 ⟨rfl, b6⟩
  clear HK
  have G6 := Lib.hid (G5.out.below b6 G5.out.lt)
  have X6 := Lib.hid (X5.out.below b6 X5.out.lt)
  have B6 := Lib.hid (B5.out.trans (b6.mono B5.out.size))
  clear b6 G5 X5 B5
  have hlen : (nextO (wantO [sTarget] (some r1))).1.length ≤ 2000000 := by
    have h1 := nextO_len (wantO [sTarget] (some r1))
    have h2 : remO (wantO [sTarget] (some r1)) ≤ remO (some r1) := wantO_len _ _
    obtain ⟨j, hj, _, hr⟩ := HA1.out r1 rfl
    have h3 : remO (some r1) = r1.length + 1 := rfl
    have h4 := congrArg List.length hr
    rw [List.length_drop] at h4
    have := H9.out
    omega
  obtain ⟨sd, hsd⟩ : ∃ s : ByteArray, s = ⟨(nextO (wantO [sTarget] (some r1))).1.toArray⟩ := ⟨_, rfl⟩
  rw [← hsd]
  have hsd2 : sd.data.toList = (nextO (wantO [sTarget] (some r1))).1 := by rw [hsd]
  have hsz : sd.size ≤ 2000000 := by
    have : sd.data.toList.length = sd.size := by simp
    rw [← this, hsd2]; exact hlen
  have HSD := Lib.hid hsd2
  have HSZ := Lib.hid hsz
  obtain ⟨o2, ho2⟩ : ∃ o2, o2 = (nextO (wantO [sTarget] (some r1))).2 := ⟨_, rfl⟩
  have HA2 : Hid (At R o2) := Lib.hid (by rw [ho2]; exact (HA1.out.skip _).next)
  rw [← ho2]
  have HO2 := Lib.hid ho2
  clear hsd hsd2 hsz ho2 hlen
  have hcv : ∀ (S : ByteArray) (W : World), (convert 9 22 (.string S)).run Try.prog W = .ok (.slice (some ⟨W.heap.size, 0, none⟩) S.size (grownCap W S.size 0 5)) (Lib.bytesWorld W 5 S) := fun S W =>
    Lib.run_convert_string_bytes W _ _ _ S Try.underlying9 Try.underlying22 Try.underlying5
  have hx : Has (Lib.bytesWorld w6 5 sd) (A + 1) [.int .u8 2, .bool false, .slice none 0 0, .slice none 0 0, .slice none 0 0] 26 := (Lib.bytesWorld_at_old _ _ _ _ X6.out.lt).trans X6.out
  have hg : Has (Lib.bytesWorld w6 5 sd) A zeroL 26 := (Lib.bytesWorld_at_old _ _ _ _ G6.out.lt).trans G6.out
  have HX := Lib.hid hx
  have HG := Lib.hid hg
  have hc0 := hx.cellAt (i := 2) rfl
  have hf0 := hx.frozen 2
  clear hx hg
  go_upto_region 35 with fail
  have hIB := conv_isB w6 sd HSZ.out
  have hBL := conv_bel w6 sd B6.out B6.out.size
  have hbs := Lib.bytesWorld_size w6 5 sd
  have hlt := X6.out.lt
  obtain ⟨gb, hgb⟩ : ∃ g, g = w6.heap.size := ⟨_, rfl⟩
  obtain ⟨cb, hcb⟩ : ∃ c, c = grownCap w6 sd.size 0 5 := ⟨_, rfl⟩
  obtain ⟨sb, hsb⟩ : ∃ z, z = sd.size := ⟨_, rfl⟩
  rw [← hgb, ← hcb, ← hsb] at hIB ⊢
  rw [← hgb] at hlt hbs
  obtain ⟨w7, hw1⟩ : ∃ x, x = Lib.bytesWorld w6 5 sd := ⟨_, rfl⟩
  rw [← hw1] at hIB hBL hbs HX HG ⊢
  have hkeep : ∀ q, q < gb → w7.heap[q]? = w6.heap[q]? := fun q hq => by rw [hw1]; exact Lib.bytesWorld_at_old _ _ _ _ (by omega)
  have HKEEP1 := Lib.hid hkeep
  clear hkeep
  have B7 := Lib.hid hBL
  have X7 := HX
  have G7 := HG
  have HIB := Lib.hid hIB
  clear hIB hBL hgb hcb hsb hw1 hcv HX HG X6 G6 B6
  obtain ⟨w8, hw⟩ : ∃ x, x = w7.setCell ⟨A + 1, 2, none⟩ (.slice (some ⟨gb, 0, none⟩) sb cb) := ⟨_, rfl⟩
  have X8 : Hid (Has w8 (A + 1) [.int .u8 2, .bool false, .slice (some ⟨gb, 0, none⟩) sb cb, .slice none 0 0, .slice none 0 0] 26) := Lib.hid (by rw [hw]; exact X7.out.set 2 _)
  have G8 : Hid (Has w8 A zeroL 26) := Lib.hid (by rw [hw]; exact G7.out.setOther (a := ⟨A + 1, 2, none⟩) (by show A ≠ A + 1; omega) _)
  have B8 : Hid (Below w.heap.size w w8) := Lib.hid (by rw [hw]; exact B7.out.setCell (p := ⟨A + 1, 2, none⟩) (by show w.heap.size ≤ A + 1; have := HA.out; omega) _)
  rw [← hw]
  have HKEEP : Hid (∀ q, q < gb → q ≠ A + 1 → w8.heap[q]? = w6.heap[q]?) := Lib.hid (fun q h1 h2 => by rw [hw]; exact (heap_setCell_other _ _ _ _ h2).trans (HKEEP1.out q h1))
  have hsz8 : w8.heap.size = w7.heap.size := by rw [hw]; simp [World.setCell]
  have hIB2 : IsB w8 (some ⟨gb, 0, none⟩) sb cb (sd).data.toList := isB_keep HIB.out (by rw [hw]; simp [World.setCell]) (fun q off e => by cases e; rw [hw]; exact heap_setCell_other _ _ _ _ (by show gb ≠ A + 1; omega))
  have HIB2 := Lib.hid hIB2
  clear hw hc0 hf0 hIB2 HIB G7 X7 B7
  obtain ⟨LT, hLT⟩ : ∃ L : List Value, L = [.int .u8 2, .bool false, .slice (some ⟨gb, 0, none⟩) sb cb, .slice none 0 0, .slice none 0 0] := ⟨_, rfl⟩
  have hL5 : (Try.prog.info? 26).map (·.size) = some LT.length := by rw [hLT, info5]; rfl
  have hL5' : (Try.prog.info? 26).map (·.size) = some LT.toArray.size := by rw [List.size_toArray]; exact hL5
  have hone : LT.toArray.all (·.oneCell') = true := by rw [hLT]; exact cells_one5 _ _ _ _ _ _ _ _ _ _ _
  have hz5 : zeroL.toArray.size = LT.toArray.size := by rw [hLT]; rfl
  have X8' : Hid (Has w8 (A + 1) LT 26) := Lib.hid (by rw [hLT]; exact X8.out)
  have HLT := Lib.hid hLT
  have HL5 := Lib.hid hL5
  have HL5' := Lib.hid hL5'
  have HONE := Lib.hid hone
  have HZ5 := Lib.hid hz5
  clear hLT hL5 hL5' hone hz5 X8
  have hS0 : Has w8.drew (A + 1) LT 26 ∧ Below w.heap.size w w8.drew ∧ Has w8.drew A zeroL 26 := ⟨X8'.out.drew, B8.out.drew, G8.out.drew⟩
  refine wp_region_held_drew (S := fun W => Has W (A + 1) LT 26) (by kernel_rfl) hS0.1 (fun hHeld => ?_)
  clear hS0
  have hu26 := Try.underlying26
  obtain ⟨wd, hwd⟩ : ∃ x, x = w8.drew := ⟨_, rfl⟩
  have hbd : Below w8.heap.size w8 wd := by rw [hwd]; exact below_drewT (Below.refl _ _)
  have hgd : Has wd A zeroL 26 := by rw [hwd]; exact G8.out.drew
  have hxd : Has wd (A + 1) LT 26 := by rw [hwd]; exact X8'.out.drew
  rw [← hwd] at hHeld ⊢
  have HBD := Lib.hid hbd
  have HGD := Lib.hid hgd
  have HXD := Lib.hid hxd
  clear hwd hbd hgd hxd
  refine wpAnyH_take (i := 0) (oi := { dst := some 122, op := Op.load 26 (Operand.tmp 8), type := 26, pos := "ref.go:141", after := #[], guard := none }) rfl (by kernel_rfl) (by kernel_rfl) (by kernel_rfl) (fun _ _ _ h => h)
    (yieldsIf_load_mid (by rfl) 26 (.tmp 8) rfl (A + 1) (0) rfl LT _ (fun _ h => rangeAt_has h) hu26 rfl HL5.out) hHeld ?_
  try simp only [Act.put, List.setIfInBounds_toArray, List.set_cons_zero, List.set_cons_succ]
  refine wpAnyH_take (i := 1) (oi := { dst := some 123, op := Op.move (Operand.tmp 0), type := 22, pos := "ref.go:141", after := #[], guard := none }) (v := .slice a n cap) rfl (by kernel_rfl) (by kernel_rfl) (by kernel_rfl) (fun _ _ _ h => h)
    (Or.inl ⟨by rfl, by intro w hSw;  clear hSw; go_simp⟩) hHeld ?_
  try simp only [Act.put, List.setIfInBounds_toArray, List.set_cons_zero, List.set_cons_succ]
  refine wpAnyH_take (i := 2) (oi := { dst := some 124, op := Op.move (Operand.tmp 1), type := 3, pos := "ref.go:141", after := #[], guard := none }) (v := .int .i64 (posI R (o2))) rfl (by kernel_rfl) (by kernel_rfl) (by kernel_rfl) (fun _ _ _ h => h)
    (Or.inl ⟨by rfl, by intro w hSw;  clear hSw; go_simp⟩) hHeld ?_
  try simp only [Act.put, List.setIfInBounds_toArray, List.set_cons_zero, List.set_cons_succ]
  refine wpAnyH_ready (rs := [3]) (by kernel_rfl) (by simp) ?_
  refine AllReadyH.cons (o := { dst := some 125, op := Op.buildSlice 23 1 #[(0, Operand.const (Value.string { data := #[41] }))], type := 23, pos := "ref.go:141", after := #[], guard := none }) rfl (fun K hK => ?_) AllReadyH.nil
  go_simp
  have ha3 := HXD.out.alloc (.cells #[.string ⟨#[41]⟩] 9)
  refine hK.out _ _ ha3 (fun hHeld2 => ?_)
  clear hK K hHeld ha3
  try simp only [Act.put, List.setIfInBounds_toArray, List.set_cons_zero, List.set_cons_succ]
  refine wpAnyH_ready (rs := [4]) (by kernel_rfl) (by simp) ?_
  refine AllReadyH.cons (o := { dst := some 126, op := Op.call { callee := Callee.value (Operand.func 22), args := #[Operand.tmp 123, Operand.tmp 124, Operand.tmp 125], argTypes := #[22, 3, 23] }, type := 3, pos := "ref.go:141", after := #[{ on := 1, ground := Ground.data }, { on := 2, ground := Ground.data }, { on := 3, ground := Ground.data }], guard := none }) rfl (fun K hK => ?_) AllReadyH.nil
  go_simp
  refine (rwant_1s ⟨#[41]⟩ sClose rfl wd (HB.out.later (B8.out.trans (HBD.out.mono B8.out.size))) H9.out HA2.out).mono ?_
  rintro e w9 ⟨rfl, b9⟩
  go_wp2_with fail
  have HX := Lib.hid (HXD.out.below b9 HXD.out.lt)
  have HG := Lib.hid (HGD.out.below b9 HGD.out.lt)
  have hb := HBD.out.trans (b9.mono HBD.out.size)
  have HBB := Lib.hid hb
  refine hK.out _ _ HX.out (fun hHeld3 => ?_)
  clear hK K hHeld2 b9 hb
  try simp only [Act.put, List.setIfInBounds_toArray, List.set_cons_zero, List.set_cons_succ]
  refine wpAnyH_ready (rs := [5]) (by kernel_rfl) (by simp) ?_
  refine AllReadyH.cons (o := { dst := none, op := Op.store 26 (Operand.tmp 6) (Operand.tmp 122), type := 0, pos := "ref.go:141", after := #[{ on := 0, ground := Ground.data }, { on := 4, ground := Ground.chain }, { on := 0, ground := Ground.phase }, { on := 1, ground := Ground.textOnly Departure.lateStores }, { on := 2, ground := Ground.textOnly Departure.lateStores }, { on := 3, ground := Ground.textOnly Departure.lateStores }, { on := 4, ground := Ground.textOnly Departure.lateStoresUnsure }], guard := none }) rfl (fun K hK => ?_) AllReadyH.nil
  refine wp_store_row 26 _ _ rfl A LT.toArray rfl rfl 26 _ HG.out HL5'.out HZ5.out HONE.out ?_
  refine hK.out _ _ ((heap_setRow_other _ _ _ _ (by omega)).trans HX.out) (fun hHeld4 => ?_)
  clear hK K hHeld3
  try simp only [Act.put]
  refine wpAnyH_take (i := 6) (oi := { dst := some 7, op := Op.assign (Operand.tmp 126), type := 3, pos := "ref.go:141", after := #[{ on := 4, ground := Ground.data }, { on := 5, ground := Ground.chain }, { on := 0, ground := Ground.phase }, { on := 1, ground := Ground.phase }, { on := 2, ground := Ground.phase }, { on := 3, ground := Ground.phase }, { on := 4, ground := Ground.phase }, { on := 5, ground := Ground.phase }], guard := none }) (v := .int .i64 (posI R (wantO [sClose] (o2)))) rfl (by kernel_rfl) (by kernel_rfl) (by kernel_rfl) (fun _ _ _ h => h)
    (Or.inl ⟨by rfl, by intro w hSw;  clear hSw; go_simp⟩) hHeld4 ?_
  try simp only [Act.put, List.setIfInBounds_toArray, List.set_cons_zero, List.set_cons_succ]
  refine wpAnyH_done (by kernel_rfl) ?_ _
  clear hHeld4 hu26
  go_wp2_with fail
  refine bodyPost_ret (results_cell_tmp (p := 6) (u := 7) (ty := 26) Try.results23 _ _ A 26 LT.toArray (0, 0) _ rfl (setRow_heap _ _ _ _ _ _ HG.out) Try.underlying26 rfl HL5'.out) rfl ?_
  refine ⟨1, LT, by rw [show (linkO (some r1)).2 = wantO [sClose] o2 from by rw [HO2.out]; try rfl]; rfl, ?_, below_setRow (B8.out.trans (HBB.out.mono B8.out.size)) (by have := HA.out; omega) _⟩
  rw [show (linkO (some r1)).1 = .mk 2 false sd.data.toList [] [] from by rw [HSD.out]; try rfl, HLT.out]
  have hsb : sb = sd.data.toList.length := HIB2.out.length.symm
  refine leafR 2 false _ (isB_keep (HIB2.out.later HBB.out) (by simp [World.setRow]) (fun q off e => by cases e; exact heap_setRow_other _ _ _ _ (by omega))) (fun q off e => by cases e; exact ⟨by have := HA.out; omega, by have := HBB.out.size; simp [World.setRow]; omega⟩)

theorem fileO_none {o : Option (List UInt8)} (h : wantO [sExec, []] o = none) : fileO o = (.mk 1 false (nextO (wantO [sContents] o)).1 [] [], wantO [sClose] (nextO (wantO [sContents] o)).2) := by
  unfold fileO; rw [h]; rfl
theorem fileO_some {o : Option (List UInt8)} {r : List UInt8} (h : wantO [sExec, []] o = some r) : fileO o = (.mk 1 true (nextO (wantO [sContents] (some r))).1 [] [], wantO [sClose] (nextO (wantO [sContents] (some r))).2) := by
  unfold fileO; rw [h]; rfl

set_option maxRecDepth 100000 in
set_option maxHeartbeats 16000000 in
theorem rt_file (a : Option Addr) (n cap : Nat) (R : List UInt8) (w : World) (hB : IsB w a n cap R) (h9 : R.length ≤ 1000000) (o : Option (List UInt8)) (ho : At R o) (dep : Nat) (hd : dep ≤ 16) (r1 : List UInt8) (hq : nextO (wantO [sOpen, sType] o) = (sRegular, some r1)) :
    Calls Try.prog 23 #[.slice a n cap, .int .i64 (posI R o), .int .i64 (dep : Int)] w (RTreeV R (fileO (some r1)) w) := by
  have HB := Lib.hid hB
  have H9 := Lib.hid h9
  have HO := Lib.hid ho
  clear hB h9 ho
  have HQ := Lib.hid hq
  have h16 : ¬ (16 : Int) < (dep : Int) := by omega
  clear hq
  go_enter Try.func23, Try.ntmps23
  go_upto_region 2 with fail
  obtain ⟨A, hA⟩ : ∃ A, A = w.heap.size := ⟨_, rfl⟩
  rw [← hA]
  obtain ⟨x1, hx1⟩ : ∃ x1, x1 = w.alloc (.cells #[.int .u8 0, .bool false, .slice none 0 0, .slice none 0 0, .slice none 0 0] 26) := ⟨_, rfl⟩
  obtain ⟨w1, hx2⟩ : ∃ x2, x2 = x1.alloc (.cells #[.int .u8 0, .bool false, .slice none 0 0, .slice none 0 0, .slice none 0 0] 26) := ⟨_, rfl⟩
  rw [← hx1, ← hx2]
  have e1 : x1.heap.size = A + 1 := by rw [hx1, hA]; simp
  have G1 : Hid (Has w1 A zeroL 26) := Lib.hid (by rw [hx2, hx1, hA]; exact (Has.new w zeroL _).alloc _)
  have X1 : Hid (Has w1 (A + 1) [.int .u8 0, .bool false, .slice none 0 0, .slice none 0 0, .slice none 0 0] 26) := Lib.hid (by rw [hx2, ← e1]; exact Has.new x1 zeroL _)
  have B1 : Hid (Below w.heap.size w w1) := Lib.hid (by rw [hx2, hx1]; exact ((Below.refl _ _).alloc (Nat.le_refl _) _).alloc (by simp) _)
  try rw [e1]
  have HA := Lib.hid hA
  clear hA hx1 hx2 e1
  go_wp2_with fail
  refine (rwant_2s ⟨#[40]⟩ ⟨#[116, 121, 112, 101]⟩ sOpen sType rfl rfl w1 (HB.out.later B1.out) H9.out HO.out).mono ?_
  rintro e w2 ⟨rfl, b2⟩
  have G2 := Lib.hid (G1.out.below b2 G1.out.lt)
  have X2 := Lib.hid (X1.out.below b2 X1.out.lt)
  have B2 := Lib.hid (B1.out.trans (b2.mono B1.out.size))
  clear b2 G1 X1 B1
  have HA1 : Hid (At R (some r1)) := Lib.hid (by have := (HO.out.skip [sOpen, sType]).next; rw [HQ.out] at this; exact this)
  have hk := rnext_any a n cap R w2 (HB.out.later B2.out) H9.out (wantO [sOpen, sType] o) (HO.out.skip _)
  rw [HQ.out] at hk
  have HK := Lib.hid hk
  clear hk
  go_wp2_with fail
  refine HK.out.mono ?_
  rintro e w3 ⟨rfl, b3⟩
  clear HK
  have G3 := Lib.hid (G2.out.below b3 G2.out.lt)
  have X3 := Lib.hid (X2.out.below b3 X2.out.lt)
  have B3 := Lib.hid (B2.out.trans (b3.mono B2.out.size))
  clear b3 G2 X2 B2
  obtain ⟨sx, hsx⟩ : ∃ s : ByteArray, s = ⟨sRegular.toArray⟩ := ⟨_, rfl⟩
  rw [← hsx]
  have hsx2 : sx.toList = sRegular := by rw [hsx, ByteArray.toList_eq]
  have t1 : (sx.toList == [114, 101, 103, 117, 108, 97, 114]) = true := by rw [hsx2]; decide
  obtain ⟨k1, hk1⟩ : ∃ k, k = posI R (some r1) := ⟨_, rfl⟩
  have hk0 : ¬ k1 < 0 := by rw [hk1]; exact posI_some
  rw [← hk1]
  have HK1 := Lib.hid hk1
  clear hsx hsx2 hk1
  have hc0 := X3.out.cellAt (i := 0) rfl
  have hf0 := X3.out.frozen 0
  go_upto_region 11 with fail
  clear t1 hk0
  obtain ⟨w4, hw⟩ : ∃ x, x = w3.setCell ⟨A + 1, 0, none⟩ (.int .u8 1) := ⟨_, rfl⟩
  have X4 : Hid (Has w4 (A + 1) [.int .u8 1, .bool false, .slice none 0 0, .slice none 0 0, .slice none 0 0] 26) := Lib.hid (by rw [hw]; exact X3.out.set 0 _)
  have G4 : Hid (Has w4 A zeroL 26) := Lib.hid (by rw [hw]; exact G3.out.setOther (a := ⟨A + 1, 0, none⟩) (by show A ≠ A + 1; omega) _)
  have B4 : Hid (Below w.heap.size w w4) := Lib.hid (by rw [hw]; exact B3.out.setCell (p := ⟨A + 1, 0, none⟩) (by show w.heap.size ≤ A + 1; have := HA.out; omega) _)
  rw [← hw]
  clear hw hc0 hf0 G3 X3 B3
  rw [HK1.out]
  go_wp2_with fail
  refine (rwant_2s ⟨#[101, 120, 101, 99, 117, 116, 97, 98, 108, 101]⟩ ⟨#[]⟩ sExec [] rfl rfl w4 (HB.out.later B4.out) H9.out HA1.out).mono ?_
  rintro e w5 ⟨rfl, b5⟩
  have G5 := Lib.hid (G4.out.below b5 G4.out.lt)
  have X5 := Lib.hid (X4.out.below b5 X4.out.lt)
  have B5 := Lib.hid (B4.out.trans (b5.mono B4.out.size))
  clear b5 G4 X4 B4
  cases hx : wantO [sExec, []] (some r1) with
  | none =>
    have HXX := Lib.hid hx
    rw [show posI R none = -1 from rfl]
    clear hx
    go_wp2_with fail
    refine (rwant_1s ⟨#[99, 111, 110, 116, 101, 110, 116, 115]⟩ sContents rfl w5 (HB.out.later B5.out) H9.out HA1.out).mono ?_
    rintro e w6 ⟨rfl, b6⟩
    have G6 := Lib.hid (G5.out.below b6 G5.out.lt)
    have X6 := Lib.hid (X5.out.below b6 X5.out.lt)
    have B6 := Lib.hid (B5.out.trans (b6.mono B5.out.size))
    clear b6 G5 X5 B5
    have hk := rnext_any a n cap R w6 (HB.out.later B6.out) H9.out (wantO [sContents] (some r1)) (HA1.out.skip _)
    have HK := Lib.hid hk
    clear hk
    go_wp2_with fail
    refine HK.out.mono ?_
    rintro e w7 ⟨rfl, b7⟩
    clear HK
    have G7 := Lib.hid (G6.out.below b7 G6.out.lt)
    have X7 := Lib.hid (X6.out.below b7 X6.out.lt)
    have B7 := Lib.hid (B6.out.trans (b7.mono B6.out.size))
    clear b7 G6 X6 B6
    have hlen : (nextO (wantO [sContents] (some r1))).1.length ≤ 2000000 := by
      have h1 := nextO_len (wantO [sContents] (some r1))
      have h2 : remO (wantO [sContents] (some r1)) ≤ remO (some r1) := wantO_len _ _
      obtain ⟨j, hj, _, hr⟩ := HA1.out r1 rfl
      have h3 : remO (some r1) = r1.length + 1 := rfl
      have h4 := congrArg List.length hr
      rw [List.length_drop] at h4
      have := H9.out
      omega
    obtain ⟨sd, hsd⟩ : ∃ s : ByteArray, s = ⟨(nextO (wantO [sContents] (some r1))).1.toArray⟩ := ⟨_, rfl⟩
    rw [← hsd]
    have hsd2 : sd.data.toList = (nextO (wantO [sContents] (some r1))).1 := by rw [hsd]
    have hsz : sd.size ≤ 2000000 := by
      have : sd.data.toList.length = sd.size := by simp
      rw [← this, hsd2]; exact hlen
    have HSD := Lib.hid hsd2
    have HSZ := Lib.hid hsz
    obtain ⟨o2, ho2⟩ : ∃ o2, o2 = (nextO (wantO [sContents] (some r1))).2 := ⟨_, rfl⟩
    have HA2 : Hid (At R o2) := Lib.hid (by rw [ho2]; exact (HA1.out.skip _).next)
    rw [← ho2]
    have HO2 := Lib.hid ho2
    clear hsd hsd2 hsz ho2 hlen
    have hcv : ∀ (S : ByteArray) (W : World), (convert 9 22 (.string S)).run Try.prog W = .ok (.slice (some ⟨W.heap.size, 0, none⟩) S.size (grownCap W S.size 0 5)) (Lib.bytesWorld W 5 S) := fun S W =>
      Lib.run_convert_string_bytes W _ _ _ S Try.underlying9 Try.underlying22 Try.underlying5
    have hx : Has (Lib.bytesWorld w7 5 sd) (A + 1) [.int .u8 1, .bool false, .slice none 0 0, .slice none 0 0, .slice none 0 0] 26 := (Lib.bytesWorld_at_old _ _ _ _ X7.out.lt).trans X7.out
    have hg : Has (Lib.bytesWorld w7 5 sd) A zeroL 26 := (Lib.bytesWorld_at_old _ _ _ _ G7.out.lt).trans G7.out
    have HX := Lib.hid hx
    have HG := Lib.hid hg
    have hc0 := hx.cellAt (i := 2) rfl
    have hf0 := hx.frozen 2
    clear hx hg
    go_upto_region 35 with fail
    have hIB := conv_isB w7 sd HSZ.out
    have hBL := conv_bel w7 sd B7.out B7.out.size
    have hbs := Lib.bytesWorld_size w7 5 sd
    have hlt := X7.out.lt
    obtain ⟨gb, hgb⟩ : ∃ g, g = w7.heap.size := ⟨_, rfl⟩
    obtain ⟨cb, hcb⟩ : ∃ c, c = grownCap w7 sd.size 0 5 := ⟨_, rfl⟩
    obtain ⟨sb, hsb⟩ : ∃ z, z = sd.size := ⟨_, rfl⟩
    rw [← hgb, ← hcb, ← hsb] at hIB ⊢
    rw [← hgb] at hlt hbs
    obtain ⟨w8, hw1⟩ : ∃ x, x = Lib.bytesWorld w7 5 sd := ⟨_, rfl⟩
    rw [← hw1] at hIB hBL hbs HX HG ⊢
    have hkeep : ∀ q, q < gb → w8.heap[q]? = w7.heap[q]? := fun q hq => by rw [hw1]; exact Lib.bytesWorld_at_old _ _ _ _ (by omega)
    have HKEEP1 := Lib.hid hkeep
    clear hkeep
    have B8 := Lib.hid hBL
    have X8 := HX
    have G8 := HG
    have HIB := Lib.hid hIB
    clear hIB hBL hgb hcb hsb hw1 hcv HX HG X7 G7 B7
    obtain ⟨w9, hw⟩ : ∃ x, x = w8.setCell ⟨A + 1, 2, none⟩ (.slice (some ⟨gb, 0, none⟩) sb cb) := ⟨_, rfl⟩
    have X9 : Hid (Has w9 (A + 1) [.int .u8 1, .bool false, .slice (some ⟨gb, 0, none⟩) sb cb, .slice none 0 0, .slice none 0 0] 26) := Lib.hid (by rw [hw]; exact X8.out.set 2 _)
    have G9 : Hid (Has w9 A zeroL 26) := Lib.hid (by rw [hw]; exact G8.out.setOther (a := ⟨A + 1, 2, none⟩) (by show A ≠ A + 1; omega) _)
    have B9 : Hid (Below w.heap.size w w9) := Lib.hid (by rw [hw]; exact B8.out.setCell (p := ⟨A + 1, 2, none⟩) (by show w.heap.size ≤ A + 1; have := HA.out; omega) _)
    rw [← hw]
    have HKEEP : Hid (∀ q, q < gb → q ≠ A + 1 → w9.heap[q]? = w7.heap[q]?) := Lib.hid (fun q h1 h2 => by rw [hw]; exact (heap_setCell_other _ _ _ _ h2).trans (HKEEP1.out q h1))
    have hsz9 : w9.heap.size = w8.heap.size := by rw [hw]; simp [World.setCell]
    have hIB2 : IsB w9 (some ⟨gb, 0, none⟩) sb cb (sd).data.toList := isB_keep HIB.out (by rw [hw]; simp [World.setCell]) (fun q off e => by cases e; rw [hw]; exact heap_setCell_other _ _ _ _ (by show gb ≠ A + 1; omega))
    have HIB2 := Lib.hid hIB2
    clear hw hc0 hf0 hIB2 HIB G8 X8 B8
    obtain ⟨LT, hLT⟩ : ∃ L : List Value, L = [.int .u8 1, .bool false, .slice (some ⟨gb, 0, none⟩) sb cb, .slice none 0 0, .slice none 0 0] := ⟨_, rfl⟩
    have hL5 : (Try.prog.info? 26).map (·.size) = some LT.length := by rw [hLT, info5]; rfl
    have hL5' : (Try.prog.info? 26).map (·.size) = some LT.toArray.size := by rw [List.size_toArray]; exact hL5
    have hone : LT.toArray.all (·.oneCell') = true := by rw [hLT]; exact cells_one5 _ _ _ _ _ _ _ _ _ _ _
    have hz5 : zeroL.toArray.size = LT.toArray.size := by rw [hLT]; rfl
    have X9' : Hid (Has w9 (A + 1) LT 26) := Lib.hid (by rw [hLT]; exact X9.out)
    have HLT := Lib.hid hLT
    have HL5 := Lib.hid hL5
    have HL5' := Lib.hid hL5'
    have HONE := Lib.hid hone
    have HZ5 := Lib.hid hz5
    clear hLT hL5 hL5' hone hz5 X9
    have hS0 : Has w9.drew (A + 1) LT 26 ∧ Below w.heap.size w w9.drew ∧ Has w9.drew A zeroL 26 := ⟨X9'.out.drew, B9.out.drew, G9.out.drew⟩
    refine wp_region_held_drew (S := fun W => Has W (A + 1) LT 26) (by kernel_rfl) hS0.1 (fun hHeld => ?_)
    clear hS0
    have hu26 := Try.underlying26
    obtain ⟨wd, hwd⟩ : ∃ x, x = w9.drew := ⟨_, rfl⟩
    have hbd : Below w9.heap.size w9 wd := by rw [hwd]; exact below_drewT (Below.refl _ _)
    have hgd : Has wd A zeroL 26 := by rw [hwd]; exact G9.out.drew
    have hxd : Has wd (A + 1) LT 26 := by rw [hwd]; exact X9'.out.drew
    rw [← hwd] at hHeld ⊢
    have HBD := Lib.hid hbd
    have HGD := Lib.hid hgd
    have HXD := Lib.hid hxd
    clear hwd hbd hgd hxd
    refine wpAnyH_take (i := 0) (oi := { dst := some 122, op := Op.load 26 (Operand.tmp 8), type := 26, pos := "ref.go:141", after := #[], guard := none }) rfl (by kernel_rfl) (by kernel_rfl) (by kernel_rfl) (fun _ _ _ h => h)
      (yieldsIf_load_mid (by rfl) 26 (.tmp 8) rfl (A + 1) (0) rfl LT _ (fun _ h => rangeAt_has h) hu26 rfl HL5.out) hHeld ?_
    try simp only [Act.put, List.setIfInBounds_toArray, List.set_cons_zero, List.set_cons_succ]
    refine wpAnyH_take (i := 1) (oi := { dst := some 123, op := Op.move (Operand.tmp 0), type := 22, pos := "ref.go:141", after := #[], guard := none }) (v := .slice a n cap) rfl (by kernel_rfl) (by kernel_rfl) (by kernel_rfl) (fun _ _ _ h => h)
      (Or.inl ⟨by rfl, by intro w hSw;  clear hSw; go_simp⟩) hHeld ?_
    try simp only [Act.put, List.setIfInBounds_toArray, List.set_cons_zero, List.set_cons_succ]
    refine wpAnyH_take (i := 2) (oi := { dst := some 124, op := Op.move (Operand.tmp 1), type := 3, pos := "ref.go:141", after := #[], guard := none }) (v := .int .i64 (posI R (o2))) rfl (by kernel_rfl) (by kernel_rfl) (by kernel_rfl) (fun _ _ _ h => h)
      (Or.inl ⟨by rfl, by intro w hSw;  clear hSw; go_simp⟩) hHeld ?_
    try simp only [Act.put, List.setIfInBounds_toArray, List.set_cons_zero, List.set_cons_succ]
    refine wpAnyH_ready (rs := [3]) (by kernel_rfl) (by simp) ?_
    refine AllReadyH.cons (o := { dst := some 125, op := Op.buildSlice 23 1 #[(0, Operand.const (Value.string { data := #[41] }))], type := 23, pos := "ref.go:141", after := #[], guard := none }) rfl (fun K hK => ?_) AllReadyH.nil
    go_simp
    have ha3 := HXD.out.alloc (.cells #[.string ⟨#[41]⟩] 9)
    refine hK.out _ _ ha3 (fun hHeld2 => ?_)
    clear hK K hHeld ha3
    try simp only [Act.put, List.setIfInBounds_toArray, List.set_cons_zero, List.set_cons_succ]
    refine wpAnyH_ready (rs := [4]) (by kernel_rfl) (by simp) ?_
    refine AllReadyH.cons (o := { dst := some 126, op := Op.call { callee := Callee.value (Operand.func 22), args := #[Operand.tmp 123, Operand.tmp 124, Operand.tmp 125], argTypes := #[22, 3, 23] }, type := 3, pos := "ref.go:141", after := #[{ on := 1, ground := Ground.data }, { on := 2, ground := Ground.data }, { on := 3, ground := Ground.data }], guard := none }) rfl (fun K hK => ?_) AllReadyH.nil
    go_simp
    refine (rwant_1s ⟨#[41]⟩ sClose rfl wd (HB.out.later (B9.out.trans (HBD.out.mono B9.out.size))) H9.out HA2.out).mono ?_
    rintro e w10 ⟨rfl, b10⟩
    go_wp2_with fail
    have HX := Lib.hid (HXD.out.below b10 HXD.out.lt)
    have HG := Lib.hid (HGD.out.below b10 HGD.out.lt)
    have hb := HBD.out.trans (b10.mono HBD.out.size)
    have HBB := Lib.hid hb
    refine hK.out _ _ HX.out (fun hHeld3 => ?_)
    clear hK K hHeld2 b10 hb
    try simp only [Act.put, List.setIfInBounds_toArray, List.set_cons_zero, List.set_cons_succ]
    refine wpAnyH_ready (rs := [5]) (by kernel_rfl) (by simp) ?_
    refine AllReadyH.cons (o := { dst := none, op := Op.store 26 (Operand.tmp 6) (Operand.tmp 122), type := 0, pos := "ref.go:141", after := #[{ on := 0, ground := Ground.data }, { on := 4, ground := Ground.chain }, { on := 0, ground := Ground.phase }, { on := 1, ground := Ground.textOnly Departure.lateStores }, { on := 2, ground := Ground.textOnly Departure.lateStores }, { on := 3, ground := Ground.textOnly Departure.lateStores }, { on := 4, ground := Ground.textOnly Departure.lateStoresUnsure }], guard := none }) rfl (fun K hK => ?_) AllReadyH.nil
    refine wp_store_row 26 _ _ rfl A LT.toArray rfl rfl 26 _ HG.out HL5'.out HZ5.out HONE.out ?_
    refine hK.out _ _ ((heap_setRow_other _ _ _ _ (by omega)).trans HX.out) (fun hHeld4 => ?_)
    clear hK K hHeld3
    try simp only [Act.put]
    refine wpAnyH_take (i := 6) (oi := { dst := some 7, op := Op.assign (Operand.tmp 126), type := 3, pos := "ref.go:141", after := #[{ on := 4, ground := Ground.data }, { on := 5, ground := Ground.chain }, { on := 0, ground := Ground.phase }, { on := 1, ground := Ground.phase }, { on := 2, ground := Ground.phase }, { on := 3, ground := Ground.phase }, { on := 4, ground := Ground.phase }, { on := 5, ground := Ground.phase }], guard := none }) (v := .int .i64 (posI R (wantO [sClose] (o2)))) rfl (by kernel_rfl) (by kernel_rfl) (by kernel_rfl) (fun _ _ _ h => h)
      (Or.inl ⟨by rfl, by intro w hSw;  clear hSw; go_simp⟩) hHeld4 ?_
    try simp only [Act.put, List.setIfInBounds_toArray, List.set_cons_zero, List.set_cons_succ]
    refine wpAnyH_done (by kernel_rfl) ?_ _
    clear hHeld4 hu26
    go_wp2_with fail
    refine bodyPost_ret (results_cell_tmp (p := 6) (u := 7) (ty := 26) Try.results23 _ _ A 26 LT.toArray (0, 0) _ rfl (setRow_heap _ _ _ _ _ _ HG.out) Try.underlying26 rfl HL5'.out) rfl ?_
    refine ⟨1, LT, by rw [show (fileO (some r1)).2 = wantO [sClose] o2 from by rw [HO2.out, fileO_none HXX.out]; try rfl]; rfl, ?_, below_setRow (B9.out.trans (HBB.out.mono B9.out.size)) (by have := HA.out; omega) _⟩
    rw [show (fileO (some r1)).1 = .mk 1 false sd.data.toList [] [] from by rw [HSD.out, fileO_none HXX.out]; try rfl, HLT.out]
    have hsb : sb = sd.data.toList.length := HIB2.out.length.symm
    refine leafR 1 false _ (isB_keep (HIB2.out.later HBB.out) (by simp [World.setRow]) (fun q off e => by cases e; exact heap_setRow_other _ _ _ _ (by omega))) (fun q off e => by cases e; exact ⟨by have := HA.out; omega, by have := HBB.out.size; simp [World.setRow]; omega⟩)
  | some r2 =>
    have HXX := Lib.hid hx
    have HA3 : Hid (At R (some r2)) := Lib.hid (by have := HA1.out.skip [sExec, []]; rw [hx] at this; exact this)
    obtain ⟨k2, hk2⟩ : ∃ k, k = posI R (some r2) := ⟨_, rfl⟩
    have hk3 : (0 : Int) ≤ k2 := by have := @posI_some R r2; omega
    rw [← hk2]
    have HK2 := Lib.hid hk2
    clear hx hk2
    have hc0 := X5.out.cellAt (i := 1) rfl
    have hf0 := X5.out.frozen 1
    go_upto_region 15 with fail
    clear hk3
    obtain ⟨w6, hw⟩ : ∃ x, x = w5.setCell ⟨A + 1, 1, none⟩ (.bool true) := ⟨_, rfl⟩
    have X6 : Hid (Has w6 (A + 1) [.int .u8 1, .bool true, .slice none 0 0, .slice none 0 0, .slice none 0 0] 26) := Lib.hid (by rw [hw]; exact X5.out.set 1 _)
    have G6 : Hid (Has w6 A zeroL 26) := Lib.hid (by rw [hw]; exact G5.out.setOther (a := ⟨A + 1, 1, none⟩) (by show A ≠ A + 1; omega) _)
    have B6 : Hid (Below w.heap.size w w6) := Lib.hid (by rw [hw]; exact B5.out.setCell (p := ⟨A + 1, 1, none⟩) (by show w.heap.size ≤ A + 1; have := HA.out; omega) _)
    rw [← hw]
    clear hw hc0 hf0 G5 X5 B5
    rw [HK2.out]
    go_wp2_with fail
    refine (rwant_1s ⟨#[99, 111, 110, 116, 101, 110, 116, 115]⟩ sContents rfl w6 (HB.out.later B6.out) H9.out HA3.out).mono ?_
    rintro e w7 ⟨rfl, b7⟩
    have G7 := Lib.hid (G6.out.below b7 G6.out.lt)
    have X7 := Lib.hid (X6.out.below b7 X6.out.lt)
    have B7 := Lib.hid (B6.out.trans (b7.mono B6.out.size))
    clear b7 G6 X6 B6
    have hk := rnext_any a n cap R w7 (HB.out.later B7.out) H9.out (wantO [sContents] (some r2)) (HA3.out.skip _)
    have HK := Lib.hid hk
    clear hk
    go_wp2_with fail
    refine HK.out.mono ?_
    rintro e w8 ⟨rfl, b8⟩
    clear HK
    have G8 := Lib.hid (G7.out.below b8 G7.out.lt)
    have X8 := Lib.hid (X7.out.below b8 X7.out.lt)
    have B8 := Lib.hid (B7.out.trans (b8.mono B7.out.size))
    clear b8 G7 X7 B7
    have hlen : (nextO (wantO [sContents] (some r2))).1.length ≤ 2000000 := by
      have h1 := nextO_len (wantO [sContents] (some r2))
      have h2 : remO (wantO [sContents] (some r2)) ≤ remO (some r2) := wantO_len _ _
      obtain ⟨j, hj, _, hr⟩ := HA3.out r2 rfl
      have h3 : remO (some r2) = r2.length + 1 := rfl
      have h4 := congrArg List.length hr
      rw [List.length_drop] at h4
      have := H9.out
      omega
    obtain ⟨sd, hsd⟩ : ∃ s : ByteArray, s = ⟨(nextO (wantO [sContents] (some r2))).1.toArray⟩ := ⟨_, rfl⟩
    rw [← hsd]
    have hsd2 : sd.data.toList = (nextO (wantO [sContents] (some r2))).1 := by rw [hsd]
    have hsz : sd.size ≤ 2000000 := by
      have : sd.data.toList.length = sd.size := by simp
      rw [← this, hsd2]; exact hlen
    have HSD := Lib.hid hsd2
    have HSZ := Lib.hid hsz
    obtain ⟨o2, ho2⟩ : ∃ o2, o2 = (nextO (wantO [sContents] (some r2))).2 := ⟨_, rfl⟩
    have HA2 : Hid (At R o2) := Lib.hid (by rw [ho2]; exact (HA3.out.skip _).next)
    rw [← ho2]
    have HO2 := Lib.hid ho2
    clear hsd hsd2 hsz ho2 hlen
    have hcv : ∀ (S : ByteArray) (W : World), (convert 9 22 (.string S)).run Try.prog W = .ok (.slice (some ⟨W.heap.size, 0, none⟩) S.size (grownCap W S.size 0 5)) (Lib.bytesWorld W 5 S) := fun S W =>
      Lib.run_convert_string_bytes W _ _ _ S Try.underlying9 Try.underlying22 Try.underlying5
    have hx : Has (Lib.bytesWorld w8 5 sd) (A + 1) [.int .u8 1, .bool true, .slice none 0 0, .slice none 0 0, .slice none 0 0] 26 := (Lib.bytesWorld_at_old _ _ _ _ X8.out.lt).trans X8.out
    have hg : Has (Lib.bytesWorld w8 5 sd) A zeroL 26 := (Lib.bytesWorld_at_old _ _ _ _ G8.out.lt).trans G8.out
    have HX := Lib.hid hx
    have HG := Lib.hid hg
    have hc0 := hx.cellAt (i := 2) rfl
    have hf0 := hx.frozen 2
    clear hx hg
    go_upto_region 35 with fail
    have hIB := conv_isB w8 sd HSZ.out
    have hBL := conv_bel w8 sd B8.out B8.out.size
    have hbs := Lib.bytesWorld_size w8 5 sd
    have hlt := X8.out.lt
    obtain ⟨gb, hgb⟩ : ∃ g, g = w8.heap.size := ⟨_, rfl⟩
    obtain ⟨cb, hcb⟩ : ∃ c, c = grownCap w8 sd.size 0 5 := ⟨_, rfl⟩
    obtain ⟨sb, hsb⟩ : ∃ z, z = sd.size := ⟨_, rfl⟩
    rw [← hgb, ← hcb, ← hsb] at hIB ⊢
    rw [← hgb] at hlt hbs
    obtain ⟨w9, hw1⟩ : ∃ x, x = Lib.bytesWorld w8 5 sd := ⟨_, rfl⟩
    rw [← hw1] at hIB hBL hbs HX HG ⊢
    have hkeep : ∀ q, q < gb → w9.heap[q]? = w8.heap[q]? := fun q hq => by rw [hw1]; exact Lib.bytesWorld_at_old _ _ _ _ (by omega)
    have HKEEP1 := Lib.hid hkeep
    clear hkeep
    have B9 := Lib.hid hBL
    have X9 := HX
    have G9 := HG
    have HIB := Lib.hid hIB
    clear hIB hBL hgb hcb hsb hw1 hcv HX HG X8 G8 B8
    obtain ⟨w10, hw⟩ : ∃ x, x = w9.setCell ⟨A + 1, 2, none⟩ (.slice (some ⟨gb, 0, none⟩) sb cb) := ⟨_, rfl⟩
    have X10 : Hid (Has w10 (A + 1) [.int .u8 1, .bool true, .slice (some ⟨gb, 0, none⟩) sb cb, .slice none 0 0, .slice none 0 0] 26) := Lib.hid (by rw [hw]; exact X9.out.set 2 _)
    have G10 : Hid (Has w10 A zeroL 26) := Lib.hid (by rw [hw]; exact G9.out.setOther (a := ⟨A + 1, 2, none⟩) (by show A ≠ A + 1; omega) _)
    have B10 : Hid (Below w.heap.size w w10) := Lib.hid (by rw [hw]; exact B9.out.setCell (p := ⟨A + 1, 2, none⟩) (by show w.heap.size ≤ A + 1; have := HA.out; omega) _)
    rw [← hw]
    have HKEEP : Hid (∀ q, q < gb → q ≠ A + 1 → w10.heap[q]? = w8.heap[q]?) := Lib.hid (fun q h1 h2 => by rw [hw]; exact (heap_setCell_other _ _ _ _ h2).trans (HKEEP1.out q h1))
    have hsz10 : w10.heap.size = w9.heap.size := by rw [hw]; simp [World.setCell]
    have hIB2 : IsB w10 (some ⟨gb, 0, none⟩) sb cb (sd).data.toList := isB_keep HIB.out (by rw [hw]; simp [World.setCell]) (fun q off e => by cases e; rw [hw]; exact heap_setCell_other _ _ _ _ (by show gb ≠ A + 1; omega))
    have HIB2 := Lib.hid hIB2
    clear hw hc0 hf0 hIB2 HIB G9 X9 B9
    obtain ⟨LT, hLT⟩ : ∃ L : List Value, L = [.int .u8 1, .bool true, .slice (some ⟨gb, 0, none⟩) sb cb, .slice none 0 0, .slice none 0 0] := ⟨_, rfl⟩
    have hL5 : (Try.prog.info? 26).map (·.size) = some LT.length := by rw [hLT, info5]; rfl
    have hL5' : (Try.prog.info? 26).map (·.size) = some LT.toArray.size := by rw [List.size_toArray]; exact hL5
    have hone : LT.toArray.all (·.oneCell') = true := by rw [hLT]; exact cells_one5 _ _ _ _ _ _ _ _ _ _ _
    have hz5 : zeroL.toArray.size = LT.toArray.size := by rw [hLT]; rfl
    have X10' : Hid (Has w10 (A + 1) LT 26) := Lib.hid (by rw [hLT]; exact X10.out)
    have HLT := Lib.hid hLT
    have HL5 := Lib.hid hL5
    have HL5' := Lib.hid hL5'
    have HONE := Lib.hid hone
    have HZ5 := Lib.hid hz5
    clear hLT hL5 hL5' hone hz5 X10
    have hS0 : Has w10.drew (A + 1) LT 26 ∧ Below w.heap.size w w10.drew ∧ Has w10.drew A zeroL 26 := ⟨X10'.out.drew, B10.out.drew, G10.out.drew⟩
    refine wp_region_held_drew (S := fun W => Has W (A + 1) LT 26) (by kernel_rfl) hS0.1 (fun hHeld => ?_)
    clear hS0
    have hu26 := Try.underlying26
    obtain ⟨wd, hwd⟩ : ∃ x, x = w10.drew := ⟨_, rfl⟩
    have hbd : Below w10.heap.size w10 wd := by rw [hwd]; exact below_drewT (Below.refl _ _)
    have hgd : Has wd A zeroL 26 := by rw [hwd]; exact G10.out.drew
    have hxd : Has wd (A + 1) LT 26 := by rw [hwd]; exact X10'.out.drew
    rw [← hwd] at hHeld ⊢
    have HBD := Lib.hid hbd
    have HGD := Lib.hid hgd
    have HXD := Lib.hid hxd
    clear hwd hbd hgd hxd
    refine wpAnyH_take (i := 0) (oi := { dst := some 122, op := Op.load 26 (Operand.tmp 8), type := 26, pos := "ref.go:141", after := #[], guard := none }) rfl (by kernel_rfl) (by kernel_rfl) (by kernel_rfl) (fun _ _ _ h => h)
      (yieldsIf_load_mid (by rfl) 26 (.tmp 8) rfl (A + 1) (0) rfl LT _ (fun _ h => rangeAt_has h) hu26 rfl HL5.out) hHeld ?_
    try simp only [Act.put, List.setIfInBounds_toArray, List.set_cons_zero, List.set_cons_succ]
    refine wpAnyH_take (i := 1) (oi := { dst := some 123, op := Op.move (Operand.tmp 0), type := 22, pos := "ref.go:141", after := #[], guard := none }) (v := .slice a n cap) rfl (by kernel_rfl) (by kernel_rfl) (by kernel_rfl) (fun _ _ _ h => h)
      (Or.inl ⟨by rfl, by intro w hSw;  clear hSw; go_simp⟩) hHeld ?_
    try simp only [Act.put, List.setIfInBounds_toArray, List.set_cons_zero, List.set_cons_succ]
    refine wpAnyH_take (i := 2) (oi := { dst := some 124, op := Op.move (Operand.tmp 1), type := 3, pos := "ref.go:141", after := #[], guard := none }) (v := .int .i64 (posI R (o2))) rfl (by kernel_rfl) (by kernel_rfl) (by kernel_rfl) (fun _ _ _ h => h)
      (Or.inl ⟨by rfl, by intro w hSw;  clear hSw; go_simp⟩) hHeld ?_
    try simp only [Act.put, List.setIfInBounds_toArray, List.set_cons_zero, List.set_cons_succ]
    refine wpAnyH_ready (rs := [3]) (by kernel_rfl) (by simp) ?_
    refine AllReadyH.cons (o := { dst := some 125, op := Op.buildSlice 23 1 #[(0, Operand.const (Value.string { data := #[41] }))], type := 23, pos := "ref.go:141", after := #[], guard := none }) rfl (fun K hK => ?_) AllReadyH.nil
    go_simp
    have ha3 := HXD.out.alloc (.cells #[.string ⟨#[41]⟩] 9)
    refine hK.out _ _ ha3 (fun hHeld2 => ?_)
    clear hK K hHeld ha3
    try simp only [Act.put, List.setIfInBounds_toArray, List.set_cons_zero, List.set_cons_succ]
    refine wpAnyH_ready (rs := [4]) (by kernel_rfl) (by simp) ?_
    refine AllReadyH.cons (o := { dst := some 126, op := Op.call { callee := Callee.value (Operand.func 22), args := #[Operand.tmp 123, Operand.tmp 124, Operand.tmp 125], argTypes := #[22, 3, 23] }, type := 3, pos := "ref.go:141", after := #[{ on := 1, ground := Ground.data }, { on := 2, ground := Ground.data }, { on := 3, ground := Ground.data }], guard := none }) rfl (fun K hK => ?_) AllReadyH.nil
    go_simp
    refine (rwant_1s ⟨#[41]⟩ sClose rfl wd (HB.out.later (B10.out.trans (HBD.out.mono B10.out.size))) H9.out HA2.out).mono ?_
    rintro e w11 ⟨rfl, b11⟩
    go_wp2_with fail
    have HX := Lib.hid (HXD.out.below b11 HXD.out.lt)
    have HG := Lib.hid (HGD.out.below b11 HGD.out.lt)
    have hb := HBD.out.trans (b11.mono HBD.out.size)
    have HBB := Lib.hid hb
    refine hK.out _ _ HX.out (fun hHeld3 => ?_)
    clear hK K hHeld2 b11 hb
    try simp only [Act.put, List.setIfInBounds_toArray, List.set_cons_zero, List.set_cons_succ]
    refine wpAnyH_ready (rs := [5]) (by kernel_rfl) (by simp) ?_
    refine AllReadyH.cons (o := { dst := none, op := Op.store 26 (Operand.tmp 6) (Operand.tmp 122), type := 0, pos := "ref.go:141", after := #[{ on := 0, ground := Ground.data }, { on := 4, ground := Ground.chain }, { on := 0, ground := Ground.phase }, { on := 1, ground := Ground.textOnly Departure.lateStores }, { on := 2, ground := Ground.textOnly Departure.lateStores }, { on := 3, ground := Ground.textOnly Departure.lateStores }, { on := 4, ground := Ground.textOnly Departure.lateStoresUnsure }], guard := none }) rfl (fun K hK => ?_) AllReadyH.nil
    refine wp_store_row 26 _ _ rfl A LT.toArray rfl rfl 26 _ HG.out HL5'.out HZ5.out HONE.out ?_
    refine hK.out _ _ ((heap_setRow_other _ _ _ _ (by omega)).trans HX.out) (fun hHeld4 => ?_)
    clear hK K hHeld3
    try simp only [Act.put]
    refine wpAnyH_take (i := 6) (oi := { dst := some 7, op := Op.assign (Operand.tmp 126), type := 3, pos := "ref.go:141", after := #[{ on := 4, ground := Ground.data }, { on := 5, ground := Ground.chain }, { on := 0, ground := Ground.phase }, { on := 1, ground := Ground.phase }, { on := 2, ground := Ground.phase }, { on := 3, ground := Ground.phase }, { on := 4, ground := Ground.phase }, { on := 5, ground := Ground.phase }], guard := none }) (v := .int .i64 (posI R (wantO [sClose] (o2)))) rfl (by kernel_rfl) (by kernel_rfl) (by kernel_rfl) (fun _ _ _ h => h)
      (Or.inl ⟨by rfl, by intro w hSw;  clear hSw; go_simp⟩) hHeld4 ?_
    try simp only [Act.put, List.setIfInBounds_toArray, List.set_cons_zero, List.set_cons_succ]
    refine wpAnyH_done (by kernel_rfl) ?_ _
    clear hHeld4 hu26
    go_wp2_with fail
    refine bodyPost_ret (results_cell_tmp (p := 6) (u := 7) (ty := 26) Try.results23 _ _ A 26 LT.toArray (0, 0) _ rfl (setRow_heap _ _ _ _ _ _ HG.out) Try.underlying26 rfl HL5'.out) rfl ?_
    refine ⟨1, LT, by rw [show (fileO (some r1)).2 = wantO [sClose] o2 from by rw [HO2.out, fileO_some HXX.out]; try rfl]; rfl, ?_, below_setRow (B10.out.trans (HBB.out.mono B10.out.size)) (by have := HA.out; omega) _⟩
    rw [show (fileO (some r1)).1 = .mk 1 true sd.data.toList [] [] from by rw [HSD.out, fileO_some HXX.out]; try rfl, HLT.out]
    have hsb : sb = sd.data.toList.length := HIB2.out.length.symm
    refine leafR 1 true _ (isB_keep (HIB2.out.later HBB.out) (by simp [World.setRow]) (fun q off e => by cases e; exact heap_setRow_other _ _ _ _ (by omega))) (fun q off e => by cases e; exact ⟨by have := HA.out; omega, by have := HBB.out.size; simp [World.setRow]; omega⟩)

set_option maxRecDepth 100000 in
set_option maxHeartbeats 16000000 in
theorem rt_deep (a : Option Addr) (n cap : Nat) (R : List UInt8) (w : World) (hB : IsB w a n cap R) (h9 : R.length ≤ 1000000) (o : Option (List UInt8)) (ho : At R o) (dep : Nat) (hd : 16 < dep) (r1 : List UInt8) (hq : (nextO (wantO [sOpen, sType] o)).2 = some r1) :
    Calls Try.prog 23 #[.slice a n cap, .int .i64 (posI R o), .int .i64 (dep : Int)] w (RTreeV R (zT, none) w) := by
  have HB := Lib.hid hB
  have H9 := Lib.hid h9
  have HO := Lib.hid ho
  clear hB h9 ho
  have HQ := Lib.hid hq
  have h16 : (16 : Int) < (dep : Int) := by omega
  clear hq
  go_enter Try.func23, Try.ntmps23
  go_upto_region 2 with fail
  obtain ⟨A, hA⟩ : ∃ A, A = w.heap.size := ⟨_, rfl⟩
  rw [← hA]
  obtain ⟨x1, hx1⟩ : ∃ x1, x1 = w.alloc (.cells #[.int .u8 0, .bool false, .slice none 0 0, .slice none 0 0, .slice none 0 0] 26) := ⟨_, rfl⟩
  obtain ⟨w1, hx2⟩ : ∃ x2, x2 = x1.alloc (.cells #[.int .u8 0, .bool false, .slice none 0 0, .slice none 0 0, .slice none 0 0] 26) := ⟨_, rfl⟩
  rw [← hx1, ← hx2]
  have e1 : x1.heap.size = A + 1 := by rw [hx1, hA]; simp
  have G1 : Hid (Has w1 A zeroL 26) := Lib.hid (by rw [hx2, hx1, hA]; exact (Has.new w zeroL _).alloc _)
  have X1 : Hid (Has w1 (A + 1) [.int .u8 0, .bool false, .slice none 0 0, .slice none 0 0, .slice none 0 0] 26) := Lib.hid (by rw [hx2, ← e1]; exact Has.new x1 zeroL _)
  have B1 : Hid (Below w.heap.size w w1) := Lib.hid (by rw [hx2, hx1]; exact ((Below.refl _ _).alloc (Nat.le_refl _) _).alloc (by simp) _)
  try rw [e1]
  have HA := Lib.hid hA
  clear hA hx1 hx2 e1
  go_wp2_with fail
  refine (rwant_2s ⟨#[40]⟩ ⟨#[116, 121, 112, 101]⟩ sOpen sType rfl rfl w1 (HB.out.later B1.out) H9.out HO.out).mono ?_
  rintro e w2 ⟨rfl, b2⟩
  have G2 := Lib.hid (G1.out.below b2 G1.out.lt)
  have X2 := Lib.hid (X1.out.below b2 X1.out.lt)
  have B2 := Lib.hid (B1.out.trans (b2.mono B1.out.size))
  clear b2 G1 X1 B1
  have hk := rnext_any a n cap R w2 (HB.out.later B2.out) H9.out (wantO [sOpen, sType] o) (HO.out.skip _)
  rw [HQ.out] at hk
  have HK := Lib.hid hk
  clear hk
  go_wp2_with fail
  refine HK.out.mono ?_
  rintro e w3 ⟨rfl, b3⟩
  clear HK
  have G3 := Lib.hid (G2.out.below b3 G2.out.lt)
  have X3 := Lib.hid (X2.out.below b3 X2.out.lt)
  have B3 := Lib.hid (B2.out.trans (b3.mono B2.out.size))
  clear b3 G2 X2 B2
  obtain ⟨k1, hk1⟩ : ∃ k, k = posI R (some r1) := ⟨_, rfl⟩
  have hk0 : ¬ k1 < 0 := by rw [hk1]; exact posI_some
  rw [← hk1]
  clear hk1
  obtain ⟨LZ, hLZ⟩ : ∃ L, L = zeroL := ⟨_, rfl⟩
  have hI0 : (Try.prog.info? 26).map (·.size) = some LZ.toArray.size := by rw [hLZ, info5]; rfl
  have hO0 : LZ.toArray.all (·.oneCell') = true := by rw [hLZ]; exact cells_one _ _ _ _ _
  have hZ0 : zeroL.toArray.size = LZ.toArray.size := by rw [hLZ]
  have HI0 := Lib.hid hI0
  have HO0 := Lib.hid hO0
  have HZ0 := Lib.hid hZ0
  have XZ : Hid (w3.heap[A + 1]? = some (.cells LZ.toArray 26 (0, 0))) := Lib.hid (by rw [hLZ]; exact X3.out)
  have GZ : Hid (w3.heap[A]? = some (.cells zeroL.toArray 26 (0, 0))) := Lib.hid G3.out
  have HLZ := Lib.hid hLZ
  clear hLZ hI0 hO0 hZ0 X3 G3
  go_wp2_with (first
    | (refine wpList_load_rowG (by rfl) 26 _ rfl (A + 1) rfl 26 LZ.toArray (0, 0) _ XZ.out Try.underlying26 rfl HI0.out ?_)
    | (refine wpList_store_row rfl 26 _ _ rfl A LZ.toArray rfl rfl 26 _ GZ.out HI0.out HZ0.out HO0.out ?_))
  try simp only [Exit.inBlock, Exit.then]
  refine bodyPost_ret (results_cell_tmp (p := 6) (u := 7) (ty := 26) Try.results23 _ _ A 26 LZ.toArray (0, 0) _ rfl (setRow_heap _ _ _ _ _ _ GZ.out) Try.underlying26 rfl HI0.out) rfl ?_
  exact ⟨1, LZ, rfl, by rw [HLZ.out]; exact zeroR _ _, below_setRow B3.out (by have := HA.out; omega) _⟩

set_option maxRecDepth 100000 in
set_option maxHeartbeats 16000000 in
theorem rt_other (a : Option Addr) (n cap : Nat) (R : List UInt8) (w : World) (hB : IsB w a n cap R) (h9 : R.length ≤ 1000000) (o : Option (List UInt8)) (ho : At R o) (dep : Nat) (hd : dep ≤ 16) (sk : List UInt8) (r1 : List UInt8) (hq : nextO (wantO [sOpen, sType] o) = (sk, some r1)) (n1 : ¬ sk = sRegular) (n2 : ¬ sk = sSymlink) (n3 : ¬ sk = sDirectory) :
    Calls Try.prog 23 #[.slice a n cap, .int .i64 (posI R o), .int .i64 (dep : Int)] w (RTreeV R (zT, none) w) := by
  have HB := Lib.hid hB
  have H9 := Lib.hid h9
  have HO := Lib.hid ho
  clear hB h9 ho
  have HQ := Lib.hid hq
  have h16 : ¬ (16 : Int) < (dep : Int) := by omega
  clear hq
  go_enter Try.func23, Try.ntmps23
  go_upto_region 2 with fail
  obtain ⟨A, hA⟩ : ∃ A, A = w.heap.size := ⟨_, rfl⟩
  rw [← hA]
  obtain ⟨x1, hx1⟩ : ∃ x1, x1 = w.alloc (.cells #[.int .u8 0, .bool false, .slice none 0 0, .slice none 0 0, .slice none 0 0] 26) := ⟨_, rfl⟩
  obtain ⟨w1, hx2⟩ : ∃ x2, x2 = x1.alloc (.cells #[.int .u8 0, .bool false, .slice none 0 0, .slice none 0 0, .slice none 0 0] 26) := ⟨_, rfl⟩
  rw [← hx1, ← hx2]
  have e1 : x1.heap.size = A + 1 := by rw [hx1, hA]; simp
  have G1 : Hid (Has w1 A zeroL 26) := Lib.hid (by rw [hx2, hx1, hA]; exact (Has.new w zeroL _).alloc _)
  have X1 : Hid (Has w1 (A + 1) [.int .u8 0, .bool false, .slice none 0 0, .slice none 0 0, .slice none 0 0] 26) := Lib.hid (by rw [hx2, ← e1]; exact Has.new x1 zeroL _)
  have B1 : Hid (Below w.heap.size w w1) := Lib.hid (by rw [hx2, hx1]; exact ((Below.refl _ _).alloc (Nat.le_refl _) _).alloc (by simp) _)
  try rw [e1]
  have HA := Lib.hid hA
  clear hA hx1 hx2 e1
  go_wp2_with fail
  refine (rwant_2s ⟨#[40]⟩ ⟨#[116, 121, 112, 101]⟩ sOpen sType rfl rfl w1 (HB.out.later B1.out) H9.out HO.out).mono ?_
  rintro e w2 ⟨rfl, b2⟩
  have G2 := Lib.hid (G1.out.below b2 G1.out.lt)
  have X2 := Lib.hid (X1.out.below b2 X1.out.lt)
  have B2 := Lib.hid (B1.out.trans (b2.mono B1.out.size))
  clear b2 G1 X1 B1
  have hk := rnext_any a n cap R w2 (HB.out.later B2.out) H9.out (wantO [sOpen, sType] o) (HO.out.skip _)
  rw [HQ.out] at hk
  have HK := Lib.hid hk
  clear hk
  go_wp2_with fail
  refine HK.out.mono ?_
  rintro e w3 ⟨rfl, b3⟩
  clear HK
  have G3 := Lib.hid (G2.out.below b3 G2.out.lt)
  have X3 := Lib.hid (X2.out.below b3 X2.out.lt)
  have B3 := Lib.hid (B2.out.trans (b3.mono B2.out.size))
  clear b3 G2 X2 B2
  obtain ⟨sx, hsx⟩ : ∃ s : ByteArray, s = ⟨sk.toArray⟩ := ⟨_, rfl⟩
  rw [← hsx]
  have hsx2 : sx.toList = sk := by rw [hsx, ByteArray.toList_eq]
  have t1 : (sx.toList == [114, 101, 103, 117, 108, 97, 114]) = false := by rw [hsx2, beq_eq_false_iff_ne]; exact n1
  have t2 : (sx.toList == [115, 121, 109, 108, 105, 110, 107]) = false := by rw [hsx2, beq_eq_false_iff_ne]; exact n2
  have t3 : (sx.toList == [100, 105, 114, 101, 99, 116, 111, 114, 121]) = false := by rw [hsx2, beq_eq_false_iff_ne]; exact n3
  obtain ⟨k1, hk1⟩ : ∃ k, k = posI R (some r1) := ⟨_, rfl⟩
  have hk0 : ¬ k1 < 0 := by rw [hk1]; exact posI_some
  rw [← hk1]
  clear hsx hsx2 hk1
  obtain ⟨LZ, hLZ⟩ : ∃ L, L = zeroL := ⟨_, rfl⟩
  have hI0 : (Try.prog.info? 26).map (·.size) = some LZ.toArray.size := by rw [hLZ, info5]; rfl
  have hO0 : LZ.toArray.all (·.oneCell') = true := by rw [hLZ]; exact cells_one _ _ _ _ _
  have hZ0 : zeroL.toArray.size = LZ.toArray.size := by rw [hLZ]
  have HI0 := Lib.hid hI0
  have HO0 := Lib.hid hO0
  have HZ0 := Lib.hid hZ0
  have XZ : Hid (w3.heap[A + 1]? = some (.cells LZ.toArray 26 (0, 0))) := Lib.hid (by rw [hLZ]; exact X3.out)
  have GZ : Hid (w3.heap[A]? = some (.cells zeroL.toArray 26 (0, 0))) := Lib.hid G3.out
  have HLZ := Lib.hid hLZ
  clear hLZ hI0 hO0 hZ0 X3 G3
  go_wp2_with (first
    | (refine wpList_load_rowG (by rfl) 26 _ rfl (A + 1) rfl 26 LZ.toArray (0, 0) _ XZ.out Try.underlying26 rfl HI0.out ?_)
    | (refine wpList_store_row rfl 26 _ _ rfl A LZ.toArray rfl rfl 26 _ GZ.out HI0.out HZ0.out HO0.out ?_))
  try simp only [Exit.inBlock, Exit.then]
  refine bodyPost_ret (results_cell_tmp (p := 6) (u := 7) (ty := 26) Try.results23 _ _ A 26 LZ.toArray (0, 0) _ rfl (setRow_heap _ _ _ _ _ _ GZ.out) Try.underlying26 rfl HI0.out) rfl ?_
  exact ⟨1, LZ, rfl, by rw [HLZ.out]; exact zeroR _ _, below_setRow B3.out (by have := HA.out; omega) _⟩

end Go.Proofs.Ythjihibocobndaa

namespace Go.Proofs.Ythjihibocobndaa
open Go.RowKit
set_option linter.unusedVariables false

theorem rtO_at : ∀ (n : Nat) {R : List UInt8} {o : Option (List UInt8)}, At R o → At R (rtO n o).2
  | 0, R, o, h => by rw [rtO]; exact At.none
  | n + 1, R, o, h => by
    have h1 := (h.skip [sOpen, sType]).next
    rw [rtO]
    split
    · exact At.none
    · split
      · unfold fileO
        simp only []
        refine At.skip _ (At.next (At.skip _ ?_))
        split
        · exact At.skip _ h1
        · exact h1
      · split
        · unfold linkO; exact At.skip _ (At.next (At.skip _ h1))
        · split
          · have hd : ∀ (m : Nat) (ns : List ByteArray) (ks : List T) {o' : Option (List UInt8)}, At R o' → At R (dirO (rtO n) m ns ks o').2 := by
              intro m
              induction m with
              | zero => intro ns ks o' _; rw [dirO]; exact At.none
              | succ m ih =>
                intro ns ks o' ho
                rw [dirO]
                split
                · refine ih _ _ ?_
                  unfold entO
                  simp only []
                  refine At.skip _ ?_
                  split
                  · exact rtO_at n (At.skip _ (At.next (At.skip _ ho)))
                  · exact At.none
                · exact At.skip _ ho
            exact hd _ _ _ h1
          · exact At.none

theorem owns_shape {w : World} {B size n : Nat} {e : TypeId} {v : Value} {xs : List Value} (h : w.ownsRow B e size v n xs) : ∃ a c, v = .slice a n c := by
  rcases h.2 with ⟨h0, h1⟩ | ⟨g, cap, cur, h1, _⟩
  · exact ⟨none, 0, by rw [h0, h1]⟩
  · exact ⟨_, _, h1⟩

section
variable {A : Nat} {w wr : World} {ns : List ByteArray} {ks : List T} {vn vk : Value}
theorem RDir.midN (h : RDir w A ns ks vn vk wr) {w' : World} (hg : wr.grownBy w' vn.ownBlock) : Has w' (A + 1) (dirC vn vk) 26 ∧ Below w.heap.size w w' := by
  have hbase := h.base
  have hnb : ∀ k, vn.ownBlock = some k → A + 2 ≤ k := fun k hk => (h.names.lt k hk).1
  exact ⟨(hg.block _ h.box.lt (fun e => by have := hnb _ e.symm; omega)).trans h.box, h.bel.grown hg h.bel.size (fun k hk => by have := hnb k hk; omega)⟩
theorem RDir.midK (h : RDir w A ns ks vn vk wr) {LK : List Value} (hk : wr.ownsRow (A + 2) 26 5 vk ks.length LK) {w' : World} (hg : wr.grownBy w' vk.ownBlock) : Has w' (A + 1) (dirC vn vk) 26 ∧ Below w.heap.size w w' := by
  have hbase := h.base
  have hnb : ∀ k, vk.ownBlock = some k → A + 2 ≤ k := fun k h => (hk.lt k h).1
  exact ⟨(hg.block _ h.box.lt (fun e => by have := hnb _ e.symm; omega)).trans h.box, h.bel.grown hg h.bel.size (fun k hk => by have := hnb k hk; omega)⟩
/-- A kid that stands aside stays what it is when the names grow. -/
theorem RDir.aside (h : RDir w A ns ks vn vk wr) {w' : World} {g n c : Nat} (hg : wr.grownBy w' vn.ownBlock) (hn : vn.ownBlock = some g ∨ g = wr.heap.size) {m : Nat} {cs : List Value} {t : T} (hk : KStab A (KP A vn vk) wr m cs t) :
    KStab A (KP A (.slice (some ⟨g, 0, none⟩) n c) vk) (w'.setCell ⟨A + 1, 3, none⟩ (.slice (some ⟨g, 0, none⟩) n c)) m cs t := by
  have e1 : ∀ k, k < wr.heap.size → k ≠ A + 1 → vn.ownBlock ≠ some k → (w'.setCell ⟨A + 1, 3, none⟩ (.slice (some ⟨g, 0, none⟩) n c)).heap[k]? = wr.heap[k]? := fun k h1 h2 h3 =>
    (heap_setCell_other w' ⟨A + 1, 3, none⟩ k _ h2).trans (hg.block k h1 (fun e => h3 e.symm))
  have hsz : wr.heap.size ≤ (w'.setCell ⟨A + 1, 3, none⟩ (.slice (some ⟨g, 0, none⟩) n c)).heap.size := by simp only [World.setCell, Array.size_modify]; exact hg.size
  refine hk.step hsz (fun k h1 h2 h3 => e1 k h2 (fun e => h3 (.inr (.inl e))) (fun e => h3 (.inr (.inr (.inl e))))) (fun k hk' hp => ?_)
  rcases hp with hp | hp | hp | hp
  · exact .inl hp
  · exact .inr (.inl hp)
  · simp only [Value.ownBlock, Option.some.injEq] at hp
    rcases hn with hn | hn
    · exact .inr (.inr (.inl (by rw [hn, hp])))
    · omega
  · exact .inr (.inr (.inr hp))
end

theorem dir_stabR {A : Nat} {ns : List ByteArray} {ks : List T} {an ak ad : Option Addr} {nn cn nk ck cd : Nat} {L LK : List Value} {w2 w3 : World} (hL : L = [.int .u8 3, .bool false, .slice ad 0 cd, .slice an nn cn, .slice ak nk ck]) (hdat : ∀ w', IsB w' ad 0 cd [])
    (hn : w2.ownsRow (A + 2) 9 1 (.slice an nn cn) ns.length (ns.map Value.string)) (hk : w2.ownsRow (A + 2) 26 5 (.slice ak nk ck) ks.length LK)
    (hs : ∀ i, i < ks.length → ∃ n, KStab A (KP A (.slice an nn cn) (.slice ak nk ck)) w2 n (five LK i) (ks.getD i default)) (hsz : w2.heap.size ≤ w3.heap.size) (hsm : ∀ k, A + 2 ≤ k → k < w2.heap.size → w3.heap[k]? = w2.heap[k]?) :
    ∃ n, Stab A [] w3 n L (.mk 3 false [] ns ks) := by
  obtain ⟨M, hM⟩ : ∃ M, ∀ i, i < ks.length → KStab A (KP A (.slice an nn cn) (.slice ak nk ck)) w2 M (five LK i) (ks.getD i default) := by
    clear hk
    have : ∀ j, j ≤ ks.length → ∃ M, ∀ i, i < j → KStab A (KP A (.slice an nn cn) (.slice ak nk ck)) w2 M (five LK i) (ks.getD i default) := by
      intro j
      induction j with
      | zero => exact fun _ => ⟨0, fun i hi => by omega⟩
      | succ j ih =>
        intro hj
        obtain ⟨M, hM⟩ := ih (by omega)
        obtain ⟨n, hn'⟩ := hs j (by omega)
        refine ⟨max M n, fun i hi => ?_⟩
        rcases Nat.lt_or_ge i j with h' | h'
        · exact fun w' h1 h2 => isT_mono _ _ _ _ (Nat.le_max_left _ _) (hM i h' w' h1 h2)
        · obtain rfl : i = j := by omega
          exact fun w' h1 h2 => isT_mono _ _ _ _ (Nat.le_max_right _ _) (hn' w' h1 h2)
    exact this ks.length (Nat.le_refl _)
  refine ⟨M + 1, fun w' hsz' hsame => ?_⟩
  subst hL
  have hh : ∀ k, A + 2 ≤ k → k < w2.heap.size → w'.heap[k]? = w2.heap[k]? := fun k h1 h2 =>
    (hsame k (by omega) (Nat.lt_of_lt_of_le h2 hsz) (by simp)).trans (hsm k h1 h2)
  have hn' := owns_same hn (fun k h1 h2 => hh k h1 h2)
  have hk' := owns_same hk (fun k h1 h2 => hh k h1 h2)
  obtain ⟨a1, c1, he1, hS⟩ := isS_owned hn'
  cases he1
  have hkl : LK.length = ks.length * 5 := hk.1
  have hK : IsK (IsT w' M) w' ak nk ck ks ∧ nk = ks.length := by
    rcases hk'.2 with ⟨h0, hz⟩ | ⟨g, cap, cur, h1, h2, h3, h4, h5, h6, h7⟩
    · cases h0
      exact ⟨⟨by omega, .inl rfl, fun _ => ⟨rfl, rfl⟩, ⟨Nat.le_refl _, Nat.zero_le _⟩⟩, hz.symm⟩
    · cases h1
      have hg : g < w'.heap.size := (Array.getElem?_eq_some_iff.1 h3).1
      have hcell : ∀ j, j < ks.length * 5 → w'.cell? ⟨g, j, none⟩ = LK[j]? := fun j hj => World.ownsRow.cellAt hk' j hj
      refine ⟨⟨rfl, .inr ⟨g, 0, rfl, hg, fun i hi => ?_⟩, (fun e => by cases e), ⟨h4, h5⟩⟩, rfl⟩
      have hT : IsT w' M (five LK i) (ks.getD i default) := hM i hi w' (Nat.le_trans hsz hsz') (fun k h1 h2 h3 => hh k (by
        have e1 : k ≠ A := fun e => h3 (.inl e)
        have e2 : k ≠ A + 1 := fun e => h3 (.inr (.inl e))
        omega) h2)
      have h5' := isT_five hT
      obtain ⟨c0, c1', c2, c3, c4, h5l⟩ := five_list h5'
      obtain ⟨e0, e1, e2, e3, e4⟩ := five_at h5l
      refine ⟨c0, c1', c2, c3, c4, by rw [← h5l]; exact hT, ?_, ?_, ?_, ?_, ?_⟩
      · rw [Nat.zero_add, hcell _ (by omega)]; simpa using e0
      · rw [Nat.zero_add, hcell _ (by omega)]; simpa using e1
      · rw [Nat.zero_add, hcell _ (by omega)]; simpa using e2
      · rw [Nat.zero_add, hcell _ (by omega)]; simpa using e3
      · rw [Nat.zero_add, hcell _ (by omega)]; simpa using e4
  exact ⟨ad, 0, cd, an, _, _, ak, nk, ck, rfl, hdat w', hS, hK.1⟩

def RDirR (Z : T × Option (List UInt8)) (m : Nat) (R : List UInt8) (w : World) (A M : Nat) (k : Nat) (aa : Value) (wr : World) : Prop :=
  ∃ (ns : List ByteArray) (ks : List T) (o : Option (List UInt8)) (vn vk : Value), ns.length = ks.length ∧ ns.length + remO o ≤ M ∧ remO o < k ∧ At R o ∧ aa = .int .i64 (posI R o) ∧ Z = dirO (rtO m) k ns ks o ∧ RDir w A ns ks vn vk wr

set_option maxRecDepth 100000 in
set_option maxHeartbeats 16000000 in
theorem rt_dir (a : Option Addr) (n cap : Nat) (R : List UInt8) (w : World) (hB : IsB w a n cap R) (h9 : R.length ≤ 1000000) (o : Option (List UInt8)) (ho : At R o) (dep : Nat) (hd : dep ≤ 16) (m : Nat) (htree : ∀ (o' : Option (List UInt8)) (w' : World), At R o' → IsB w' a n cap R → Calls Try.prog 23 #[.slice a n cap, .int .i64 (posI R o'), .int .i64 ((dep : Int) + 1)] w' (RTreeV R (rtO m o') w'))
    (r1 : List UInt8) (hq : nextO (wantO [sOpen, sType] o) = (sDirectory, some r1)) :
    Calls Try.prog 23 #[.slice a n cap, .int .i64 (posI R o), .int .i64 (dep : Int)] w (RTreeV R (dirO (rtO m) (remO (some r1) + 1) [] [] (some r1)) w) := by
  have HB := Lib.hid hB
  have H9 := Lib.hid h9
  have HO := Lib.hid ho
  clear hB h9 ho
  obtain ⟨i0, hi, hz0, hz1, hz2⟩ := info_strw_parts
  have HI := Lib.hid hi
  have HZ0 := Lib.hid hz0
  have HZ1 := Lib.hid hz1
  have HZ2 := Lib.hid hz2
  obtain ⟨i1, hi1, hz3, hz4, hz5⟩ := info_treew_parts
  have HI1 := Lib.hid hi1
  have HZ3 := Lib.hid hz3
  have HZ4 := Lib.hid hz4
  have HZ5 := Lib.hid hz5
  clear hi hz0 hz1 hz2 hi1 hz3 hz4 hz5
  have HTREE := Lib.hid htree
  have HQ := Lib.hid hq
  have h16 : ¬ (16 : Int) < (dep : Int) := by omega
  have HWD : Hid (IntKind.i64.wrap ((dep : Int) + 1) = (dep : Int) + 1) := Lib.hid (by simp [IntKind.wrap, IntKind.bits, IntKind.signed]; omega)
  clear htree hq
  obtain ⟨Z, hZ⟩ : ∃ Z, Z = dirO (rtO m) (remO (some r1) + 1) [] [] (some r1) := ⟨_, rfl⟩
  rw [← hZ]
  have HZZ := Lib.hid hZ
  clear hZ
  go_enter Try.func23, Try.ntmps23
  go_upto_region 2 with fail
  obtain ⟨A, hA⟩ : ∃ A, A = w.heap.size := ⟨_, rfl⟩
  rw [← hA]
  obtain ⟨x1, hx1⟩ : ∃ x1, x1 = w.alloc (.cells #[.int .u8 0, .bool false, .slice none 0 0, .slice none 0 0, .slice none 0 0] 26) := ⟨_, rfl⟩
  obtain ⟨w1, hx2⟩ : ∃ x2, x2 = x1.alloc (.cells #[.int .u8 0, .bool false, .slice none 0 0, .slice none 0 0, .slice none 0 0] 26) := ⟨_, rfl⟩
  rw [← hx1, ← hx2]
  have e1 : x1.heap.size = A + 1 := by rw [hx1, hA]; simp
  have G1 : Hid (Has w1 A zeroL 26) := Lib.hid (by rw [hx2, hx1, hA]; exact (Has.new w zeroL _).alloc _)
  have X1 : Hid (Has w1 (A + 1) [.int .u8 0, .bool false, .slice none 0 0, .slice none 0 0, .slice none 0 0] 26) := Lib.hid (by rw [hx2, ← e1]; exact Has.new x1 zeroL _)
  have B1 : Hid (Below w.heap.size w w1) := Lib.hid (by rw [hx2, hx1]; exact ((Below.refl _ _).alloc (Nat.le_refl _) _).alloc (by simp) _)
  try rw [e1]
  have HA := Lib.hid hA
  clear hA hx1 hx2 e1
  go_wp2_with fail
  refine (rwant_2s ⟨#[40]⟩ ⟨#[116, 121, 112, 101]⟩ sOpen sType rfl rfl w1 (HB.out.later B1.out) H9.out HO.out).mono ?_
  rintro e w2 ⟨rfl, b2⟩
  have G2 := Lib.hid (G1.out.below b2 G1.out.lt)
  have X2 := Lib.hid (X1.out.below b2 X1.out.lt)
  have B2 := Lib.hid (B1.out.trans (b2.mono B1.out.size))
  clear b2 G1 X1 B1
  have HA1 : Hid (At R (some r1)) := Lib.hid (by have := (HO.out.skip [sOpen, sType]).next; rw [HQ.out] at this; exact this)
  have hk := rnext_any a n cap R w2 (HB.out.later B2.out) H9.out (wantO [sOpen, sType] o) (HO.out.skip _)
  rw [HQ.out] at hk
  have HK := Lib.hid hk
  clear hk
  go_wp2_with fail
  refine HK.out.mono ?_
  rintro e w3 ⟨rfl, b3⟩
  clear HK
  have G3 := Lib.hid (G2.out.below b3 G2.out.lt)
  have X3 := Lib.hid (X2.out.below b3 X2.out.lt)
  have B3 := Lib.hid (B2.out.trans (b3.mono B2.out.size))
  clear b3 G2 X2 B2
  obtain ⟨sx, hsx⟩ : ∃ s : ByteArray, s = ⟨sDirectory.toArray⟩ := ⟨_, rfl⟩
  rw [← hsx]
  have hsx2 : sx.toList = sDirectory := by rw [hsx, ByteArray.toList_eq]
  have t1 : (sx.toList == [114, 101, 103, 117, 108, 97, 114]) = false := by rw [hsx2]; decide
  have t2 : (sx.toList == [115, 121, 109, 108, 105, 110, 107]) = false := by rw [hsx2]; decide
  have t3 : (sx.toList == [100, 105, 114, 101, 99, 116, 111, 114, 121]) = true := by rw [hsx2]; decide
  obtain ⟨k1, hk1⟩ : ∃ k, k = posI R (some r1) := ⟨_, rfl⟩
  have hk0 : ¬ k1 < 0 := by rw [hk1]; exact posI_some
  rw [← hk1]
  have HK1 := Lib.hid hk1
  clear hsx hsx2 hk1
  have hc0 := X3.out.cellAt (i := 0) rfl
  have hf0 := X3.out.frozen 0
  go_wp2_with fail
  clear t1 t2 t3 hk0
  obtain ⟨w4, hw⟩ : ∃ x, x = w3.setCell ⟨A + 1, 0, none⟩ (.int .u8 3) := ⟨_, rfl⟩
  have X4 : Hid (Has w4 (A + 1) [.int .u8 3, .bool false, .slice none 0 0, .slice none 0 0, .slice none 0 0] 26) := Lib.hid (by rw [hw]; exact X3.out.set 0 _)
  have G4 : Hid (Has w4 A zeroL 26) := Lib.hid (by rw [hw]; exact G3.out.setOther (a := ⟨A + 1, 0, none⟩) (by show A ≠ A + 1; omega) _)
  have B4 : Hid (Below w.heap.size w w4) := Lib.hid (by rw [hw]; exact B3.out.setCell (p := ⟨A + 1, 0, none⟩) (by show w.heap.size ≤ A + 1; have := HA.out; omega) _)
  rw [← hw]
  clear hw hc0 hf0 G3 X3 B3
  rw [HK1.out]
  have D4 : Hid (RDir w A [] [] (.slice none 0 0) (.slice none 0 0) w4) := Lib.hid ⟨B4.out, G4.out, X4.out, World.ownsRow_nil _ _ _ _, ⟨[], World.ownsRow_nil _ _ _ _, fun i hi => by simp at hi⟩, HA.out⟩
  obtain ⟨M, hM⟩ : ∃ M, M = remO (some r1) := ⟨_, rfl⟩
  have hM9 : M ≤ 1000001 := by
    obtain ⟨j, hj, _, hr⟩ := HA1.out r1 rfl
    have h3 : remO (some r1) = r1.length + 1 := rfl
    have h4 := congrArg List.length hr
    rw [List.length_drop] at h4
    have := H9.out
    omega
  have HZZ2 : Hid (Z = dirO (rtO m) (M + 1) [] [] (some r1)) := Lib.hid (by rw [hM]; exact HZZ.out)
  have HMM := Lib.hid hM
  clear G4 X4 B4 hM HZZ
  go_loopg [1] (M + 1) (fun k aa wr => RDirR Z m R w A M k aa wr)
  case atStart => exact ⟨[], [], some r1, _, _, rfl, by rw [HMM.out]; simp, by have := HMM.out; omega, HA1.out, rfl, HZZ2.out, D4.out⟩
  case round =>
    clear D4
    obtain ⟨ns, ks, oc, vn, vk, hl, hlen, hlk, hat, rfl, heq, hD⟩ := hrel
    obtain ⟨mm, rfl⟩ : ∃ mm, gk = mm + 1 := ⟨gk - 1, by omega⟩
    have HLL := Lib.hid hl
    have HAT := Lib.hid hat
    rw [dirO] at heq
    have HEQ := Lib.hid heq
    have DW := Lib.hid hD
    clear hl hat heq hD
    cases oc with
    | none =>
      have hz : Z = (.mk 3 false [] ns ks, wantO [sClose] none) := by rw [HEQ.out]; simp [onO]
      clear HEQ
      rw [show posI R none = -1 from rfl]
      obtain ⟨w60, h60⟩ : ∃ x : World, x = wr := ⟨_, rfl⟩
      rw [← h60] at DW ⊢
      clear h60
      have HZF := Lib.hid hz
      have DE := Lib.hid (DW.out)
      obtain ⟨an, cn, rfl⟩ := owns_shape DE.out.names
      obtain ⟨ak, ck, rfl⟩ : ∃ a c, vk = .slice a ks.length c := by obtain ⟨LK, h, _⟩ := DE.out.kids; exact owns_shape h
      have G60 := Lib.hid DE.out.res
      have X60 : Hid (Has w60 (A + 1) [.int .u8 3, .bool false, .slice none 0 0, .slice an ns.length cn, .slice ak ks.length ck] 26) := Lib.hid DE.out.box
      have B60 := Lib.hid DE.out.bel
      obtain ⟨sd, hsd⟩ : ∃ s : ByteArray, s = ⟨#[]⟩ := ⟨_, rfl⟩
      have HSD := Lib.hid hsd
      have hs0 : sd.size = 0 := by rw [hsd]; rfl
      have HS0 := Lib.hid hs0
      clear hs0
      rw [← hsd]
      clear hsd
      have hcv : ∀ (S : ByteArray) (W : World), (convert 9 22 (.string S)).run Try.prog W = .ok (.slice (some ⟨W.heap.size, 0, none⟩) S.size (grownCap W S.size 0 5)) (Lib.bytesWorld W 5 S) := fun S W =>
        Lib.run_convert_string_bytes W _ _ _ S Try.underlying9 Try.underlying22 Try.underlying5
      have hx : Has (Lib.bytesWorld w60 5 sd) (A + 1) [.int .u8 3, .bool false, .slice none 0 0, .slice an ns.length cn, .slice ak ks.length ck] 26 := (Lib.bytesWorld_at_old _ _ _ _ X60.out.lt).trans X60.out
      have hg : Has (Lib.bytesWorld w60 5 sd) A zeroL 26 := (Lib.bytesWorld_at_old _ _ _ _ G60.out.lt).trans G60.out
      have HX := Lib.hid hx
      have HG := Lib.hid hg
      have hc0 := hx.cellAt (i := 2) rfl
      have hf0 := hx.frozen 2
      clear hx hg
      go_upto_region 35 with fail
      have hIB := conv_isB w60 sd (by have := HS0.out; omega)
      have hBL := conv_bel w60 sd B60.out B60.out.size
      have hbs := Lib.bytesWorld_size w60 5 sd
      have hlt := X60.out.lt
      obtain ⟨gb, hgb⟩ : ∃ g, g = w60.heap.size := ⟨_, rfl⟩
      obtain ⟨cb, hcb⟩ : ∃ c, c = grownCap w60 sd.size 0 5 := ⟨_, rfl⟩
      obtain ⟨sb, hsb⟩ : ∃ z, z = sd.size := ⟨_, rfl⟩
      rw [← hgb, ← hcb, ← hsb] at hIB ⊢
      rw [← hgb] at hlt hbs
      obtain ⟨w61, hw1⟩ : ∃ x, x = Lib.bytesWorld w60 5 sd := ⟨_, rfl⟩
      rw [← hw1] at hIB hBL hbs HX HG ⊢
      have hkeep : ∀ q, q < gb → w61.heap[q]? = w60.heap[q]? := fun q hq => by rw [hw1]; exact Lib.bytesWorld_at_old _ _ _ _ (by omega)
      have HKEEP1 := Lib.hid hkeep
      have HGB := Lib.hid hgb
      clear hkeep
      have B61 := Lib.hid hBL
      have X61 := HX
      have G61 := HG
      have HIB := Lib.hid hIB
      clear hIB hBL hgb hcb hsb hw1 hcv HX HG X60 G60 B60
      obtain ⟨w62, hw⟩ : ∃ x, x = w61.setCell ⟨A + 1, 2, none⟩ (.slice (some ⟨gb, 0, none⟩) sb cb) := ⟨_, rfl⟩
      have X62 : Hid (Has w62 (A + 1) [.int .u8 3, .bool false, .slice (some ⟨gb, 0, none⟩) sb cb, .slice an ns.length cn, .slice ak ks.length ck] 26) := Lib.hid (by rw [hw]; exact X61.out.set 2 _)
      have G62 : Hid (Has w62 A zeroL 26) := Lib.hid (by rw [hw]; exact G61.out.setOther (a := ⟨A + 1, 2, none⟩) (by show A ≠ A + 1; omega) _)
      have B62 : Hid (Below w.heap.size w w62) := Lib.hid (by rw [hw]; exact B61.out.setCell (p := ⟨A + 1, 2, none⟩) (by show w.heap.size ≤ A + 1; have := HA.out; omega) _)
      rw [← hw]
      have HKEEP : Hid (∀ q, q < gb → q ≠ A + 1 → w62.heap[q]? = w60.heap[q]?) := Lib.hid (fun q h1 h2 => by rw [hw]; exact (heap_setCell_other _ _ _ _ h2).trans (HKEEP1.out q h1))
      have hsz62 : w62.heap.size = w61.heap.size := by rw [hw]; simp [World.setCell]
      have hIB2 : IsB w62 (some ⟨gb, 0, none⟩) sb cb (sd).data.toList := isB_keep HIB.out (by rw [hw]; simp [World.setCell]) (fun q off e => by cases e; rw [hw]; exact heap_setCell_other _ _ _ _ (by show gb ≠ A + 1; omega))
      have HIB2 := Lib.hid hIB2
      clear hw hc0 hf0 hIB2 HIB G61 X61 B61
      obtain ⟨LT, hLT⟩ : ∃ L : List Value, L = [.int .u8 3, .bool false, .slice (some ⟨gb, 0, none⟩) sb cb, .slice an ns.length cn, .slice ak ks.length ck] := ⟨_, rfl⟩
      have hL5 : (Try.prog.info? 26).map (·.size) = some LT.length := by rw [hLT, info5]; rfl
      have hL5' : (Try.prog.info? 26).map (·.size) = some LT.toArray.size := by rw [List.size_toArray]; exact hL5
      have hone : LT.toArray.all (·.oneCell') = true := by rw [hLT]; exact cells_one5 _ _ _ _ _ _ _ _ _ _ _
      have hz5 : zeroL.toArray.size = LT.toArray.size := by rw [hLT]; rfl
      have X62' : Hid (Has w62 (A + 1) LT 26) := Lib.hid (by rw [hLT]; exact X62.out)
      have HLT := Lib.hid hLT
      have HL5 := Lib.hid hL5
      have HL5' := Lib.hid hL5'
      have HONE := Lib.hid hone
      have HZ5 := Lib.hid hz5
      clear hLT hL5 hL5' hone hz5 X62
      have hS0 : Has w62.drew (A + 1) LT 26 ∧ Below w.heap.size w w62.drew ∧ Has w62.drew A zeroL 26 := ⟨X62'.out.drew, B62.out.drew, G62.out.drew⟩
      refine wp_region_held_drew (S := fun W => Has W (A + 1) LT 26) (by kernel_rfl) hS0.1 (fun hHeld => ?_)
      clear hS0
      have hu26 := Try.underlying26
      obtain ⟨wd, hwd⟩ : ∃ x, x = w62.drew := ⟨_, rfl⟩
      have hbd : Below w62.heap.size w62 wd := by rw [hwd]; exact below_drewT (Below.refl _ _)
      have hgd : Has wd A zeroL 26 := by rw [hwd]; exact G62.out.drew
      have hxd : Has wd (A + 1) LT 26 := by rw [hwd]; exact X62'.out.drew
      rw [← hwd] at hHeld ⊢
      have HBD := Lib.hid hbd
      have HGD := Lib.hid hgd
      have HXD := Lib.hid hxd
      clear hwd hbd hgd hxd
      refine wpAnyH_take (i := 0) (oi := { dst := some 122, op := Op.load 26 (Operand.tmp 8), type := 26, pos := "ref.go:141", after := #[], guard := none }) rfl (by kernel_rfl) (by kernel_rfl) (by kernel_rfl) (fun _ _ _ h => h)
        (yieldsIf_load_mid (by rfl) 26 (.tmp 8) rfl (A + 1) (0) rfl LT _ (fun _ h => rangeAt_has h) hu26 rfl HL5.out) hHeld ?_
      try simp only [Act.put, List.setIfInBounds_toArray, List.set_cons_zero, List.set_cons_succ]
      refine wpAnyH_take (i := 1) (oi := { dst := some 123, op := Op.move (Operand.tmp 0), type := 22, pos := "ref.go:141", after := #[], guard := none }) (v := .slice a n cap) rfl (by kernel_rfl) (by kernel_rfl) (by kernel_rfl) (fun _ _ _ h => h)
        (Or.inl ⟨by rfl, by intro w hSw;  clear hSw; go_simp⟩) hHeld ?_
      try simp only [Act.put, List.setIfInBounds_toArray, List.set_cons_zero, List.set_cons_succ]
      refine wpAnyH_take (i := 2) (oi := { dst := some 124, op := Op.move (Operand.tmp 1), type := 3, pos := "ref.go:141", after := #[], guard := none }) (v := .int .i64 (-1)) rfl (by kernel_rfl) (by kernel_rfl) (by kernel_rfl) (fun _ _ _ h => h)
        (Or.inl ⟨by rfl, by intro w hSw;  clear hSw; go_simp⟩) hHeld ?_
      try simp only [Act.put, List.setIfInBounds_toArray, List.set_cons_zero, List.set_cons_succ]
      refine wpAnyH_ready (rs := [3]) (by kernel_rfl) (by simp) ?_
      refine AllReadyH.cons (o := { dst := some 125, op := Op.buildSlice 23 1 #[(0, Operand.const (Value.string { data := #[41] }))], type := 23, pos := "ref.go:141", after := #[], guard := none }) rfl (fun K hK => ?_) AllReadyH.nil
      go_simp
      have ha3 := HXD.out.alloc (.cells #[.string ⟨#[41]⟩] 9)
      refine hK.out _ _ ha3 (fun hHeld2 => ?_)
      clear hK K hHeld ha3
      try simp only [Act.put, List.setIfInBounds_toArray, List.set_cons_zero, List.set_cons_succ]
      refine wpAnyH_ready (rs := [4]) (by kernel_rfl) (by simp) ?_
      refine AllReadyH.cons (o := { dst := some 126, op := Op.call { callee := Callee.value (Operand.func 22), args := #[Operand.tmp 123, Operand.tmp 124, Operand.tmp 125], argTypes := #[22, 3, 23] }, type := 3, pos := "ref.go:141", after := #[{ on := 1, ground := Ground.data }, { on := 2, ground := Ground.data }, { on := 3, ground := Ground.data }], guard := none }) rfl (fun K hK => ?_) AllReadyH.nil
      go_simp
      refine (rwant_1s ⟨#[41]⟩ sClose rfl wd (HB.out.later (B62.out.trans (HBD.out.mono B62.out.size))) H9.out HAT.out).mono ?_
      rintro e w63 ⟨rfl, b63⟩
      go_wp2_with fail
      have HX := Lib.hid (HXD.out.below b63 HXD.out.lt)
      have HG := Lib.hid (HGD.out.below b63 HGD.out.lt)
      have hb := HBD.out.trans (b63.mono HBD.out.size)
      have HBB := Lib.hid hb
      refine hK.out _ _ HX.out (fun hHeld3 => ?_)
      clear hK K hHeld2 b63 hb
      try simp only [Act.put, List.setIfInBounds_toArray, List.set_cons_zero, List.set_cons_succ]
      refine wpAnyH_ready (rs := [5]) (by kernel_rfl) (by simp) ?_
      refine AllReadyH.cons (o := { dst := none, op := Op.store 26 (Operand.tmp 6) (Operand.tmp 122), type := 0, pos := "ref.go:141", after := #[{ on := 0, ground := Ground.data }, { on := 4, ground := Ground.chain }, { on := 0, ground := Ground.phase }, { on := 1, ground := Ground.textOnly Departure.lateStores }, { on := 2, ground := Ground.textOnly Departure.lateStores }, { on := 3, ground := Ground.textOnly Departure.lateStores }, { on := 4, ground := Ground.textOnly Departure.lateStoresUnsure }], guard := none }) rfl (fun K hK => ?_) AllReadyH.nil
      refine wp_store_row 26 _ _ rfl A LT.toArray rfl rfl 26 _ HG.out HL5'.out HZ5.out HONE.out ?_
      refine hK.out _ _ ((heap_setRow_other _ _ _ _ (by omega)).trans HX.out) (fun hHeld4 => ?_)
      clear hK K hHeld3
      try simp only [Act.put]
      refine wpAnyH_take (i := 6) (oi := { dst := some 7, op := Op.assign (Operand.tmp 126), type := 3, pos := "ref.go:141", after := #[{ on := 4, ground := Ground.data }, { on := 5, ground := Ground.chain }, { on := 0, ground := Ground.phase }, { on := 1, ground := Ground.phase }, { on := 2, ground := Ground.phase }, { on := 3, ground := Ground.phase }, { on := 4, ground := Ground.phase }, { on := 5, ground := Ground.phase }], guard := none }) (v := .int .i64 (posI R (wantO [sClose] (none)))) rfl (by kernel_rfl) (by kernel_rfl) (by kernel_rfl) (fun _ _ _ h => h)
        (Or.inl ⟨by rfl, by intro w hSw;  clear hSw; go_simp⟩) hHeld4 ?_
      try simp only [Act.put, List.setIfInBounds_toArray, List.set_cons_zero, List.set_cons_succ]
      refine wpAnyH_done (by kernel_rfl) ?_ _
      clear hHeld4 hu26
      go_wp2_with fail
      refine bodyPost_ret (results_cell_tmp (p := 6) (u := 7) (ty := 26) Try.results23 _ _ A 26 LT.toArray (0, 0) _ rfl (setRow_heap _ _ _ _ _ _ HG.out) Try.underlying26 rfl HL5'.out) rfl ?_
      obtain ⟨LK, hLK, hLS⟩ := DE.out.kids
      have hsb : sb = 0 := by
        have h1 := HIB2.out.length
        have h2 : sd.data.toList = [] := by rw [HSD.out]
        rw [h2] at h1; exact h1.symm
      subst hsb
      have hcb := HIB2.out.room
      have hmost := HIB2.out.most
      have hgb := HGB.out
      obtain ⟨nf, hst⟩ := dir_stabR (w3 := w63.setRow A LT.toArray) HLT.out (fun w' => ⟨rfl, .inl rfl, (fun e => by cases e), hcb, hmost⟩) DE.out.names hLK hLS (by have h1 := HBB.out.size; simp only [World.setRow, Array.size_modify]; omega)
        (fun q h1 h2 => (heap_setRow_other _ _ _ _ (by omega)).trans ((HBB.out.block q (by omega)).trans (HKEEP.out q (by omega) (by omega))))
      refine ⟨nf, LT, by rw [HZF.out]; rfl, ?_, below_setRow (B62.out.trans (HBB.out.mono B62.out.size)) (by have := HA.out; omega) _⟩
      rw [HZF.out, ← HA.out]
      exact hst
    | some r =>
      obtain ⟨k3, hk3⟩ : ∃ k, k = posI R (some r) := ⟨_, rfl⟩
      have hp3 : (0 : Int) ≤ k3 := by have := @posI_some R r; omega
      have hk := rwant_1s ⟨#[41]⟩ sClose rfl wr (HB.out.later DW.out.bel) H9.out HAT.out
      rw [← hk3] at hk ⊢
      have HK3 := Lib.hid hk3
      have HK := Lib.hid hk
      clear hk3 hk
      go_wp2_with fail
      refine HK.out.mono ?_
      rintro e w60 ⟨rfl, b60⟩
      have D60 := Lib.hid (DW.out.later b60)
      clear b60 HK DW
      cases hc : wantO [sClose] (some r) with
      | some q =>
        have hz : Z = (.mk 3 false [] ns ks, wantO [sClose] (some r)) := by rw [HEQ.out]; simp [onO, hc]
        obtain ⟨k4, hk4⟩ : ∃ k, k = posI R (some q) := ⟨_, rfl⟩
        have hp4 : ¬ k4 < 0 := by rw [hk4]; exact posI_some
        rw [← hk4, HK3.out]
        clear hk4 hc HEQ
        have HZF := Lib.hid hz
        have DE := Lib.hid (D60.out)
        obtain ⟨an, cn, rfl⟩ := owns_shape DE.out.names
        obtain ⟨ak, ck, rfl⟩ : ∃ a c, vk = .slice a ks.length c := by obtain ⟨LK, h, _⟩ := DE.out.kids; exact owns_shape h
        have G60 := Lib.hid DE.out.res
        have X60 : Hid (Has w60 (A + 1) [.int .u8 3, .bool false, .slice none 0 0, .slice an ns.length cn, .slice ak ks.length ck] 26) := Lib.hid DE.out.box
        have B60 := Lib.hid DE.out.bel
        obtain ⟨sd, hsd⟩ : ∃ s : ByteArray, s = ⟨#[]⟩ := ⟨_, rfl⟩
        have HSD := Lib.hid hsd
        have hs0 : sd.size = 0 := by rw [hsd]; rfl
        have HS0 := Lib.hid hs0
        clear hs0
        rw [← hsd]
        clear hsd
        have hcv : ∀ (S : ByteArray) (W : World), (convert 9 22 (.string S)).run Try.prog W = .ok (.slice (some ⟨W.heap.size, 0, none⟩) S.size (grownCap W S.size 0 5)) (Lib.bytesWorld W 5 S) := fun S W =>
          Lib.run_convert_string_bytes W _ _ _ S Try.underlying9 Try.underlying22 Try.underlying5
        have hx : Has (Lib.bytesWorld w60 5 sd) (A + 1) [.int .u8 3, .bool false, .slice none 0 0, .slice an ns.length cn, .slice ak ks.length ck] 26 := (Lib.bytesWorld_at_old _ _ _ _ X60.out.lt).trans X60.out
        have hg : Has (Lib.bytesWorld w60 5 sd) A zeroL 26 := (Lib.bytesWorld_at_old _ _ _ _ G60.out.lt).trans G60.out
        have HX := Lib.hid hx
        have HG := Lib.hid hg
        have hc0 := hx.cellAt (i := 2) rfl
        have hf0 := hx.frozen 2
        clear hx hg
        go_upto_region 35 with fail
        have hIB := conv_isB w60 sd (by have := HS0.out; omega)
        have hBL := conv_bel w60 sd B60.out B60.out.size
        have hbs := Lib.bytesWorld_size w60 5 sd
        have hlt := X60.out.lt
        obtain ⟨gb, hgb⟩ : ∃ g, g = w60.heap.size := ⟨_, rfl⟩
        obtain ⟨cb, hcb⟩ : ∃ c, c = grownCap w60 sd.size 0 5 := ⟨_, rfl⟩
        obtain ⟨sb, hsb⟩ : ∃ z, z = sd.size := ⟨_, rfl⟩
        rw [← hgb, ← hcb, ← hsb] at hIB ⊢
        rw [← hgb] at hlt hbs
        obtain ⟨w61, hw1⟩ : ∃ x, x = Lib.bytesWorld w60 5 sd := ⟨_, rfl⟩
        rw [← hw1] at hIB hBL hbs HX HG ⊢
        have hkeep : ∀ q, q < gb → w61.heap[q]? = w60.heap[q]? := fun q hq => by rw [hw1]; exact Lib.bytesWorld_at_old _ _ _ _ (by omega)
        have HKEEP1 := Lib.hid hkeep
        have HGB := Lib.hid hgb
        clear hkeep
        have B61 := Lib.hid hBL
        have X61 := HX
        have G61 := HG
        have HIB := Lib.hid hIB
        clear hIB hBL hgb hcb hsb hw1 hcv HX HG X60 G60 B60
        obtain ⟨w62, hw⟩ : ∃ x, x = w61.setCell ⟨A + 1, 2, none⟩ (.slice (some ⟨gb, 0, none⟩) sb cb) := ⟨_, rfl⟩
        have X62 : Hid (Has w62 (A + 1) [.int .u8 3, .bool false, .slice (some ⟨gb, 0, none⟩) sb cb, .slice an ns.length cn, .slice ak ks.length ck] 26) := Lib.hid (by rw [hw]; exact X61.out.set 2 _)
        have G62 : Hid (Has w62 A zeroL 26) := Lib.hid (by rw [hw]; exact G61.out.setOther (a := ⟨A + 1, 2, none⟩) (by show A ≠ A + 1; omega) _)
        have B62 : Hid (Below w.heap.size w w62) := Lib.hid (by rw [hw]; exact B61.out.setCell (p := ⟨A + 1, 2, none⟩) (by show w.heap.size ≤ A + 1; have := HA.out; omega) _)
        rw [← hw]
        have HKEEP : Hid (∀ q, q < gb → q ≠ A + 1 → w62.heap[q]? = w60.heap[q]?) := Lib.hid (fun q h1 h2 => by rw [hw]; exact (heap_setCell_other _ _ _ _ h2).trans (HKEEP1.out q h1))
        have hsz62 : w62.heap.size = w61.heap.size := by rw [hw]; simp [World.setCell]
        have hIB2 : IsB w62 (some ⟨gb, 0, none⟩) sb cb (sd).data.toList := isB_keep HIB.out (by rw [hw]; simp [World.setCell]) (fun q off e => by cases e; rw [hw]; exact heap_setCell_other _ _ _ _ (by show gb ≠ A + 1; omega))
        have HIB2 := Lib.hid hIB2
        clear hw hc0 hf0 hIB2 HIB G61 X61 B61
        obtain ⟨LT, hLT⟩ : ∃ L : List Value, L = [.int .u8 3, .bool false, .slice (some ⟨gb, 0, none⟩) sb cb, .slice an ns.length cn, .slice ak ks.length ck] := ⟨_, rfl⟩
        have hL5 : (Try.prog.info? 26).map (·.size) = some LT.length := by rw [hLT, info5]; rfl
        have hL5' : (Try.prog.info? 26).map (·.size) = some LT.toArray.size := by rw [List.size_toArray]; exact hL5
        have hone : LT.toArray.all (·.oneCell') = true := by rw [hLT]; exact cells_one5 _ _ _ _ _ _ _ _ _ _ _
        have hz5 : zeroL.toArray.size = LT.toArray.size := by rw [hLT]; rfl
        have X62' : Hid (Has w62 (A + 1) LT 26) := Lib.hid (by rw [hLT]; exact X62.out)
        have HLT := Lib.hid hLT
        have HL5 := Lib.hid hL5
        have HL5' := Lib.hid hL5'
        have HONE := Lib.hid hone
        have HZ5 := Lib.hid hz5
        clear hLT hL5 hL5' hone hz5 X62
        have hS0 : Has w62.drew (A + 1) LT 26 ∧ Below w.heap.size w w62.drew ∧ Has w62.drew A zeroL 26 := ⟨X62'.out.drew, B62.out.drew, G62.out.drew⟩
        refine wp_region_held_drew (S := fun W => Has W (A + 1) LT 26) (by kernel_rfl) hS0.1 (fun hHeld => ?_)
        clear hS0
        have hu26 := Try.underlying26
        obtain ⟨wd, hwd⟩ : ∃ x, x = w62.drew := ⟨_, rfl⟩
        have hbd : Below w62.heap.size w62 wd := by rw [hwd]; exact below_drewT (Below.refl _ _)
        have hgd : Has wd A zeroL 26 := by rw [hwd]; exact G62.out.drew
        have hxd : Has wd (A + 1) LT 26 := by rw [hwd]; exact X62'.out.drew
        rw [← hwd] at hHeld ⊢
        have HBD := Lib.hid hbd
        have HGD := Lib.hid hgd
        have HXD := Lib.hid hxd
        clear hwd hbd hgd hxd
        refine wpAnyH_take (i := 0) (oi := { dst := some 122, op := Op.load 26 (Operand.tmp 8), type := 26, pos := "ref.go:141", after := #[], guard := none }) rfl (by kernel_rfl) (by kernel_rfl) (by kernel_rfl) (fun _ _ _ h => h)
          (yieldsIf_load_mid (by rfl) 26 (.tmp 8) rfl (A + 1) (0) rfl LT _ (fun _ h => rangeAt_has h) hu26 rfl HL5.out) hHeld ?_
        try simp only [Act.put, List.setIfInBounds_toArray, List.set_cons_zero, List.set_cons_succ]
        refine wpAnyH_take (i := 1) (oi := { dst := some 123, op := Op.move (Operand.tmp 0), type := 22, pos := "ref.go:141", after := #[], guard := none }) (v := .slice a n cap) rfl (by kernel_rfl) (by kernel_rfl) (by kernel_rfl) (fun _ _ _ h => h)
          (Or.inl ⟨by rfl, by intro w hSw;  clear hSw; go_simp⟩) hHeld ?_
        try simp only [Act.put, List.setIfInBounds_toArray, List.set_cons_zero, List.set_cons_succ]
        refine wpAnyH_take (i := 2) (oi := { dst := some 124, op := Op.move (Operand.tmp 1), type := 3, pos := "ref.go:141", after := #[], guard := none }) (v := .int .i64 (posI R ((some r)))) rfl (by kernel_rfl) (by kernel_rfl) (by kernel_rfl) (fun _ _ _ h => h)
          (Or.inl ⟨by rfl, by intro w hSw;  clear hSw; go_simp⟩) hHeld ?_
        try simp only [Act.put, List.setIfInBounds_toArray, List.set_cons_zero, List.set_cons_succ]
        refine wpAnyH_ready (rs := [3]) (by kernel_rfl) (by simp) ?_
        refine AllReadyH.cons (o := { dst := some 125, op := Op.buildSlice 23 1 #[(0, Operand.const (Value.string { data := #[41] }))], type := 23, pos := "ref.go:141", after := #[], guard := none }) rfl (fun K hK => ?_) AllReadyH.nil
        go_simp
        have ha3 := HXD.out.alloc (.cells #[.string ⟨#[41]⟩] 9)
        refine hK.out _ _ ha3 (fun hHeld2 => ?_)
        clear hK K hHeld ha3
        try simp only [Act.put, List.setIfInBounds_toArray, List.set_cons_zero, List.set_cons_succ]
        refine wpAnyH_ready (rs := [4]) (by kernel_rfl) (by simp) ?_
        refine AllReadyH.cons (o := { dst := some 126, op := Op.call { callee := Callee.value (Operand.func 22), args := #[Operand.tmp 123, Operand.tmp 124, Operand.tmp 125], argTypes := #[22, 3, 23] }, type := 3, pos := "ref.go:141", after := #[{ on := 1, ground := Ground.data }, { on := 2, ground := Ground.data }, { on := 3, ground := Ground.data }], guard := none }) rfl (fun K hK => ?_) AllReadyH.nil
        go_simp
        refine (rwant_1s ⟨#[41]⟩ sClose rfl wd (HB.out.later (B62.out.trans (HBD.out.mono B62.out.size))) H9.out HAT.out).mono ?_
        rintro e w63 ⟨rfl, b63⟩
        go_wp2_with fail
        have HX := Lib.hid (HXD.out.below b63 HXD.out.lt)
        have HG := Lib.hid (HGD.out.below b63 HGD.out.lt)
        have hb := HBD.out.trans (b63.mono HBD.out.size)
        have HBB := Lib.hid hb
        refine hK.out _ _ HX.out (fun hHeld3 => ?_)
        clear hK K hHeld2 b63 hb
        try simp only [Act.put, List.setIfInBounds_toArray, List.set_cons_zero, List.set_cons_succ]
        refine wpAnyH_ready (rs := [5]) (by kernel_rfl) (by simp) ?_
        refine AllReadyH.cons (o := { dst := none, op := Op.store 26 (Operand.tmp 6) (Operand.tmp 122), type := 0, pos := "ref.go:141", after := #[{ on := 0, ground := Ground.data }, { on := 4, ground := Ground.chain }, { on := 0, ground := Ground.phase }, { on := 1, ground := Ground.textOnly Departure.lateStores }, { on := 2, ground := Ground.textOnly Departure.lateStores }, { on := 3, ground := Ground.textOnly Departure.lateStores }, { on := 4, ground := Ground.textOnly Departure.lateStoresUnsure }], guard := none }) rfl (fun K hK => ?_) AllReadyH.nil
        refine wp_store_row 26 _ _ rfl A LT.toArray rfl rfl 26 _ HG.out HL5'.out HZ5.out HONE.out ?_
        refine hK.out _ _ ((heap_setRow_other _ _ _ _ (by omega)).trans HX.out) (fun hHeld4 => ?_)
        clear hK K hHeld3
        try simp only [Act.put]
        refine wpAnyH_take (i := 6) (oi := { dst := some 7, op := Op.assign (Operand.tmp 126), type := 3, pos := "ref.go:141", after := #[{ on := 4, ground := Ground.data }, { on := 5, ground := Ground.chain }, { on := 0, ground := Ground.phase }, { on := 1, ground := Ground.phase }, { on := 2, ground := Ground.phase }, { on := 3, ground := Ground.phase }, { on := 4, ground := Ground.phase }, { on := 5, ground := Ground.phase }], guard := none }) (v := .int .i64 (posI R (wantO [sClose] ((some r))))) rfl (by kernel_rfl) (by kernel_rfl) (by kernel_rfl) (fun _ _ _ h => h)
          (Or.inl ⟨by rfl, by intro w hSw;  clear hSw; go_simp⟩) hHeld4 ?_
        try simp only [Act.put, List.setIfInBounds_toArray, List.set_cons_zero, List.set_cons_succ]
        refine wpAnyH_done (by kernel_rfl) ?_ _
        clear hHeld4 hu26
        go_wp2_with fail
        refine bodyPost_ret (results_cell_tmp (p := 6) (u := 7) (ty := 26) Try.results23 _ _ A 26 LT.toArray (0, 0) _ rfl (setRow_heap _ _ _ _ _ _ HG.out) Try.underlying26 rfl HL5'.out) rfl ?_
        obtain ⟨LK, hLK, hLS⟩ := DE.out.kids
        have hsb : sb = 0 := by
          have h1 := HIB2.out.length
          have h2 : sd.data.toList = [] := by rw [HSD.out]
          rw [h2] at h1; exact h1.symm
        subst hsb
        have hcb := HIB2.out.room
        have hmost := HIB2.out.most
        have hgb := HGB.out
        obtain ⟨nf, hst⟩ := dir_stabR (w3 := w63.setRow A LT.toArray) HLT.out (fun w' => ⟨rfl, .inl rfl, (fun e => by cases e), hcb, hmost⟩) DE.out.names hLK hLS (by have h1 := HBB.out.size; simp only [World.setRow, Array.size_modify]; omega)
          (fun q h1 h2 => (heap_setRow_other _ _ _ _ (by omega)).trans ((HBB.out.block q (by omega)).trans (HKEEP.out q (by omega) (by omega))))
        refine ⟨nf, LT, by rw [HZF.out]; rfl, ?_, below_setRow (B62.out.trans (HBB.out.mono B62.out.size)) (by have := HA.out; omega) _⟩
        rw [HZF.out, ← HA.out]
        exact hst
      | none =>
        have hz : Z = dirO (rtO m) mm (ns ++ [(entO (rtO m) (some r)).1]) (ks ++ [(entO (rtO m) (some r)).2.1]) (entO (rtO m) (some r)).2.2 := by rw [HEQ.out]; simp [onO, hc]
        have HZF := Lib.hid hz
        rw [show posI R none = -1 from rfl, HK3.out]
        clear hz hc HEQ
        go_upto_region 26 with fail
        obtain ⟨KB, hKB⟩ : ∃ K, K = w60.heap.size := ⟨_, rfl⟩
        obtain ⟨w61, hw⟩ : ∃ x, x = w60.alloc (.cells #[.int .u8 0, .bool false, .slice none 0 0, .slice none 0 0, .slice none 0 0] 26) := ⟨_, rfl⟩
        rw [← hKB, ← hw]
        have BX61 : Hid (Below w60.heap.size w60 w61) := Lib.hid (by rw [hw]; exact (Below.refl _ _).alloc (Nat.le_refl _) _)
        have K61 : Hid (Has w61 KB zeroL 26) := Lib.hid (by rw [hw, hKB]; exact Has.new w60 zeroL _)
        have HKB := Lib.hid hKB
        have HB60 := Lib.hid (HB.out.later D60.out.bel)
        clear hw hKB
        go_wp2_with fail
        refine (rwant_3s ⟨#[101, 110, 116, 114, 121]⟩ ⟨#[40]⟩ ⟨#[110, 97, 109, 101]⟩ sEntry sOpen sName rfl rfl rfl w61 (HB60.out.later BX61.out) H9.out HAT.out).mono ?_
        rintro e w62 ⟨rfl, b62⟩
        have K62 := Lib.hid (K61.out.below b62 K61.out.lt)
        have BX62 := Lib.hid (BX61.out.trans (b62.mono BX61.out.size))
        clear b62 K61 BX61
        have HK := Lib.hid (rnext_any a n cap R w62 (HB60.out.later BX62.out) H9.out (wantO [sEntry, sOpen, sName] (some r)) (HAT.out.skip _))
        go_wp2_with fail
        refine HK.out.mono ?_
        rintro e w63 ⟨rfl, b63⟩
        have K63 := Lib.hid (K62.out.below b63 K62.out.lt)
        have BX63 := Lib.hid (BX62.out.trans (b63.mono BX62.out.size))
        clear b63 K62 BX62 HK
        obtain ⟨nm, hnm⟩ : ∃ s : ByteArray, s = ⟨(nextO (wantO [sEntry, sOpen, sName] (some r))).1.toArray⟩ := ⟨_, rfl⟩
        obtain ⟨ob, hob⟩ : ∃ o, o = (nextO (wantO [sEntry, sOpen, sName] (some r))).2 := ⟨_, rfl⟩
        rw [← hnm, ← hob]
        have HAB : Hid (At R ob) := Lib.hid (by rw [hob]; exact (HAT.out.skip _).next)
        have HENT : Hid (entO (rtO m) (some r) = (nm, (if (wantO [sNode] ob).isSome then rtO m (wantO [sNode] ob) else (zT, none)).1, wantO [sClose] (if (wantO [sNode] ob).isSome then rtO m (wantO [sNode] ob) else (zT, none)).2)) := Lib.hid (by rw [hnm, hob]; rfl)
        clear hnm hob
        go_wp2_with fail
        refine (rwant_1s ⟨#[110, 111, 100, 101]⟩ sNode rfl w63 (HB60.out.later BX63.out) H9.out HAB.out).mono ?_
        rintro e w64 ⟨rfl, b64⟩
        have K64 := Lib.hid (K63.out.below b64 K63.out.lt)
        have BX64 := Lib.hid (BX63.out.trans (b64.mono BX63.out.size))
        clear b64 K63 BX63
        cases hn : wantO [sNode] ob with
        | none =>
          rw [show posI R none = -1 from rfl]
          go_wp2_with fail
          refine (rwant_1s (o := none) ⟨#[41]⟩ sClose rfl w64 (HB60.out.later BX64.out) H9.out At.none).mono ?_
          rintro e w70 ⟨rfl, b70⟩
          obtain ⟨oe, hoe⟩ : ∃ o, o = wantO [sClose] none := ⟨_, rfl⟩
          rw [← hoe]
          have HEN : Hid (entO (rtO m) (some r) = (nm, zT, oe)) := Lib.hid (by rw [HENT.out, hn, hoe]; rfl)
          have BX70 := Lib.hid (BX64.out.trans (b70.mono BX64.out.size))
          have K70 := Lib.hid (K64.out.below b70 K64.out.lt)
          have HAE : Hid (At R oe) := Lib.hid (by rw [hoe]; exact At.none.skip _)
          have HBEL70 : Hid (Below w.heap.size w w70) := Lib.hid (D60.out.bel.trans (BX70.out.mono D60.out.bel.size))
          have HSZ70 : Hid (w60.heap.size ≤ w70.heap.size) := Lib.hid BX70.out.size
          have HOLD70 : Hid (∀ q, q < w60.heap.size → w70.heap[q]? = w60.heap[q]?) := Lib.hid (fun q h => BX70.out.block q h)
          have HKS70 : Hid (∃ nk, KStab A (KP A vn vk) w70 nk [.int .u8 0, .bool false, .slice none 0 0, .slice none 0 0, .slice none 0 0] (zT)) := Lib.hid ⟨1, fun w' _ _ => zeroR 0 w' w' (Nat.le_refl _) (fun _ _ _ _ => rfl)⟩
          have HONE : Hid (([.int .u8 0, .bool false, .slice none 0 0, .slice none 0 0, .slice none 0 0] : List Value).toArray.all (·.oneCell') = true) := Lib.hid (cells_one5 _ _ _ _ _ _ _ _ _ _ _)
          clear hoe hn b70 HENT K64 BX64
          have HENT2 : Hid (remO oe + 1 ≤ remO (some r)) := Lib.hid (by have h := (entO_len (rtO m) (rtO_len m) r).1; rw [HEN.out] at h; exact h)
          have D70 := Lib.hid (D60.out.keep HBEL70.out HSZ70.out (fun q h1 h2 => HOLD70.out q h2))
          have hc3 := D70.out.box.cellAt (i := 3) rfl
          obtain ⟨w71, hw71⟩ : ∃ x, x = w70.alloc (.cells #[.string nm] 9) := ⟨_, rfl⟩
          have p71 : Has w71 w70.heap.size [.string nm] 9 := by rw [hw71]; exact Has.new w70 [.string nm] _
          have b71 : Below w70.heap.size w70 w71 := by rw [hw71]; exact (Below.refl _ _).alloc (Nat.le_refl _) _
          have D71 := Lib.hid (D70.out.later b71)
          have P71 := Lib.hid p71
          have HB71 := Lib.hid b71
          have HW71 := Lib.hid hw71
          have hsz70 := HSZ70.out
          have hboxl := D60.out.box.lt
          clear p71 b71 hw71
          go_wp2_with (at_builtin; go_must (refine wpList_append_lies _ rfl (.tmp 108) (.tmp 110) 23 rfl (A + 2) 9 i0 (.string ByteArray.empty) 1 16 Try.underlying23 HI.out HZ0.out HZ1.out HZ2.out rfl (by omega) vn ns.length (ns.map Value.string) rfl (by rw [← HW71.out]; exact D71.out.names) ⟨w70.heap.size, 0, none⟩ 1 1 [.string nm] rfl rfl ?a1x ?a2x (by omega) (by unfold maxLen; omega) (by omega) ?a3x _ rfl ?d7x))
          case a1x =>
            intro j u hj
            match j, hj with
            | 0, hj => cases hj; rw [Addr.add_lit, ← HW71.out]; exact P71.out.cellAt (i := 0) rfl
            | j + 1, hj => simp at hj
          case a2x => intro u hu; simp at hu; subst hu; rfl
          case a3x => simp; omega
          intro ga capa w72 ho hg hlo hhi
          rw [← HW71.out] at hg
          have hsz71 : w71.heap.size = w70.heap.size + 1 := by rw [HW71.out]; simp
          rw [← hsz71] at hlo
          have HKS71 : Hid (∃ nk, KStab A (KP A vn vk) w71 nk [.int .u8 0, .bool false, .slice none 0 0, .slice none 0 0, .slice none 0 0] (zT)) := Lib.hid (by
            obtain ⟨nk, h⟩ := HKS70.out
            exact ⟨nk, h.step HB71.out.size (fun k _ h2 _ => HB71.out.block k h2) (fun k _ hp => hp)⟩)
          have D73 := D71.out.name ho hg hlo
          have hm := (D71.out.midN hg).1
          have HKS73 : Hid (∃ nk, KStab A (KP A (.slice (some ⟨ga, 0, none⟩) (ns.length + 1) capa) vk) (w72.setCell ⟨A + 1, 3, none⟩ (.slice (some ⟨ga, 0, none⟩) (ns.length + 1) capa)) nk [.int .u8 0, .bool false, .slice none 0 0, .slice none 0 0, .slice none 0 0] (zT)) := Lib.hid (by
            obtain ⟨nk, h⟩ := HKS71.out
            exact ⟨nk, D71.out.aside hg hlo h⟩)
          have hvn : ∀ q, vn.ownBlock = some q → q < KB := fun q hq => by rw [HKB.out]; exact (D60.out.names.lt q hq).2
          have hka : A + 1 < KB := by rw [HKB.out]; exact hboxl
          have K73 : Hid (Has (w72.setCell ⟨A + 1, 3, none⟩ (.slice (some ⟨ga, 0, none⟩) (ns.length + 1) capa)) KB [.int .u8 0, .bool false, .slice none 0 0, .slice none 0 0, .slice none 0 0] 26) := Lib.hid (by
            refine (heap_setCell_other w72 ⟨A + 1, 3, none⟩ KB _ (by show KB ≠ A + 1; omega)).trans ?_
            refine (hg.block KB (by rw [hsz71]; have := K70.out.lt; omega) (fun e => by have := hvn KB e.symm; omega)).trans ?_
            exact (HB71.out.block KB K70.out.lt).trans K70.out)
          have c6 := hm.cellAt (i := 3) rfl
          have f6 := hm.frozen 3
          have HD73 := Lib.hid D73
          have HKA := Lib.hid hka
          clear ho hg hlo hhi D73 hm hvn hc3 hka HKS70 HKS71 D71 P71 HB71 hsz70 D70
          go_upto_region 33 with fail
          obtain ⟨w73, hw73⟩ : ∃ x, x = w72.setCell ⟨A + 1, 3, none⟩ (.slice (some ⟨ga, 0, none⟩) (ns.length + 1) capa) := ⟨_, rfl⟩
          rw [← hw73] at HD73 HKS73 K73 ⊢
          clear hw73 c6 f6 HW71 hsz71
          obtain ⟨vn2, hvn2⟩ : ∃ v, v = Value.slice (some ⟨ga, 0, none⟩) (ns.length + 1) capa := ⟨_, rfl⟩
          rw [← hvn2] at HD73 HKS73 ⊢
          clear hvn2
          have hc4 := HD73.out.box.cellAt (i := 4) rfl
          have hq0 := K73.out.cellAt (i := 0) rfl
          have hq1 := K73.out.cellAt (i := 1) rfl
          have hq2 := K73.out.cellAt (i := 2) rfl
          have hq3 := K73.out.cellAt (i := 3) rfl
          have hq4 := K73.out.cellAt (i := 4) rfl
          obtain ⟨w74, hw74⟩ : ∃ x, x = w73.alloc (.cells #[.int .u8 0, .bool false, .slice none 0 0, .slice none 0 0, .slice none 0 0] 26) := ⟨_, rfl⟩
          have p74 : Has w74 w73.heap.size [.int .u8 0, .bool false, .slice none 0 0, .slice none 0 0, .slice none 0 0] 26 := by rw [hw74]; exact Has.new w73 [.int .u8 0, .bool false, .slice none 0 0, .slice none 0 0, .slice none 0 0] _
          have b74 : Below w73.heap.size w73 w74 := by rw [hw74]; exact (Below.refl _ _).alloc (Nat.le_refl _) _
          have D74 := Lib.hid (HD73.out.later b74)
          have HKS74 : Hid (∃ nk, KStab A (KP A vn2 vk) w74 nk [.int .u8 0, .bool false, .slice none 0 0, .slice none 0 0, .slice none 0 0] (zT)) := Lib.hid (by
            obtain ⟨nk, h⟩ := HKS73.out
            exact ⟨nk, h.step b74.size (fun k _ h2 _ => b74.block k h2) (fun k _ hp => hp)⟩)
          have P74 := Lib.hid p74
          have HB74 := Lib.hid b74
          have HW74 := Lib.hid hw74
          have hbl := HD73.out.box.lt
          obtain ⟨LK, hLK, hLS⟩ := D74.out.kids
          have HLK := Lib.hid hLK
          have HLS := Lib.hid hLS
          clear p74 b74 hw74 HKS73 hLK hLS
          go_wp2_with (at_builtin; go_must (refine wpList_append_lies _ rfl (.tmp 114) (.tmp 116) 24 rfl (A + 2) 26 i1 (.agg #[.int .u8 0, .bool false, .slice none 0 0, .slice none 0 0, .slice none 0 0]) 5 80 Try.underlying24 HI1.out HZ3.out HZ4.out HZ5.out rfl (by omega) vk ks.length LK rfl (by first | exact HLK.out | (rw [← HW74.out]; exact HLK.out)) ⟨w73.heap.size, 0, none⟩ 1 1 [.int .u8 0, .bool false, .slice none 0 0, .slice none 0 0, .slice none 0 0] rfl rfl ?b1x ?b2x (by have := HLL.out; omega) (by unfold maxLen; have := HLL.out; omega) (by have := HLL.out; omega) ?b3x _ rfl ?e7x))
          case b1x =>
            intro j u hj
            try rw [← HW74.out]
            match j, hj with
            | 0, hj => cases hj; rw [Addr.add_lit]; exact P74.out.cellAt (i := 0) rfl
            | 1, hj => cases hj; rw [Addr.add_lit]; exact P74.out.cellAt (i := 1) rfl
            | 2, hj => cases hj; rw [Addr.add_lit]; exact P74.out.cellAt (i := 2) rfl
            | 3, hj => cases hj; rw [Addr.add_lit]; exact P74.out.cellAt (i := 3) rfl
            | 4, hj => cases hj; rw [Addr.add_lit]; exact P74.out.cellAt (i := 4) rfl
            | j + 5, hj => simp at hj
          case b2x =>
            intro u hu
            have h := HONE.out
            exact (Array.all_eq_true_iff_forall_mem.1 h) u (by simpa using hu)
          case b3x => simp; omega
          intro gc capc w75 ho hg hlo hhi
          try rw [← HW74.out] at hg
          have hsz74 : w74.heap.size = w73.heap.size + 1 := by rw [HW74.out]; simp
          try rw [← hsz74] at hlo
          obtain ⟨nk, hks⟩ := HKS74.out
          have D75 := D74.out.kid HLK.out HLS.out hks rfl ho hg hlo
          have hm := (D74.out.midK HLK.out hg).1
          have c7 := hm.cellAt (i := 4) rfl
          have f7 := hm.frozen 4
          have HD75 := Lib.hid D75
          clear ho hg hlo hhi D75 hm hks hc4 hq0 hq1 hq2 hq3 hq4 HKS74 P74 HB74 D74 HLK HLS
          go_wp2_with fail
          clear c7 f7
          have HRL : Hid ((ns ++ [nm]).length = (ks ++ [zT]).length) := Lib.hid (by rw [List.length_append, List.length_append, HLL.out]; rfl)
          have HRN : Hid ((ns ++ [nm]).length + remO oe ≤ M) := Lib.hid (by rw [List.length_append, List.length_singleton]; have := HENT2.out; omega)
          have hlt2 : remO oe < mm := by have := HENT2.out; omega
          have HRM := Lib.hid hlt2
          have HRZ : Hid (Z = dirO (rtO m) mm (ns ++ [nm]) (ks ++ [zT]) oe) := Lib.hid (by rw [HZF.out, HEN.out])
          go_roundg mm
          case rel => exact ⟨_, _, oe, _, _, HRL.out, HRN.out, HRM.out, HAE.out, rfl, HRZ.out, HD75.out⟩
          case measure => omega
        | some r4 =>
          have HA4 : Hid (At R (some r4)) := Lib.hid (by have := HAB.out.skip [sNode]; rw [hn] at this; exact this)
          obtain ⟨k5, hk5⟩ : ∃ k, k = posI R (some r4) := ⟨_, rfl⟩
          have hp5 : (0 : Int) ≤ k5 := by have := @posI_some R r4; omega
          have hk := HTREE.out (some r4) w64 HA4.out (HB60.out.later BX64.out)
          rw [← hk5] at hk ⊢
          have HK := Lib.hid hk
          have HN := Lib.hid hn
          clear hk hk5 hn
          go_wp2_with fail
          refine HK.out.mono ?_
          rintro e w65 ⟨nk, cs, rfl, hst, b65⟩
          have K65 := Lib.hid (K64.out.below b65 K64.out.lt)
          have BX65 := Lib.hid (BX64.out.trans (b65.mono BX64.out.size))
          have hT := hst w65 (Nat.le_refl _) (fun _ _ _ _ => rfl)
          have HIL := Lib.hid (infoL (isT_five hT))
          have HON1 := Lib.hid (isT_one hT)
          have HFI := Lib.hid (isT_five hT)
          have HZS : Hid (zeroL.toArray.size = cs.toArray.size) := Lib.hid (by simp [isT_five hT, zeroL])
          have HST := Lib.hid hst
          have HK64 := Lib.hid K64.out.lt
          have HB65 := Lib.hid b65
          have HBX64 := Lib.hid BX64.out.size
          clear hT hst b65 K64 BX64 HK
          go_upto_region 31 with (refine wpList_store_row rfl 26 _ _ rfl KB cs.toArray rfl rfl 26 _ K65.out HIL.out HZS.out HON1.out ?_)
          obtain ⟨w66, hw⟩ : ∃ x, x = w65.setRow KB cs.toArray := ⟨_, rfl⟩
          have K66 : Hid (Has w66 KB cs 26) := Lib.hid (by rw [hw]; exact K65.out.row cs)
          have BX66 : Hid (Below w60.heap.size w60 w66) := Lib.hid (by rw [hw]; exact below_setRow BX65.out (by rw [HKB.out]; exact Nat.le_refl _) _)
          have hs66 : w66.heap.size = w65.heap.size := by rw [hw]; simp [World.setRow]
          have HKS66 : Hid (∃ nk, KStab A (KP A vn vk) w66 nk cs ((rtO m (some r4)).1)) := Lib.hid ⟨nk, fun w'' h1 h2 => HST.out w'' (by omega) (fun q h3 h4 _ => by
            have hlt := HBX64.out
            have hk64 := HK64.out
            have hnp : ¬ KP A vn vk q := fun hp => by have := KP_ltR D60.out q hp; omega
            have hA : A ≤ q := by have := D60.out.box.lt; omega
            rw [h2 q hA (by omega) hnp, hw]
            exact heap_setRow_other _ _ _ _ (by omega))⟩
          rw [← hw]
          have HS66 := Lib.hid hs66
          clear hw K65 BX65 hs66 HST HK64 HB65 HBX64
          go_wp2_with fail
          refine (rwant_1s (o := (rtO m (some r4)).2) ⟨#[41]⟩ sClose rfl w66 (HB60.out.later BX66.out) H9.out (rtO_at m HA4.out)).mono ?_
          rintro e w70 ⟨rfl, b70⟩
          obtain ⟨oe, hoe⟩ : ∃ o, o = wantO [sClose] (rtO m (some r4)).2 := ⟨_, rfl⟩
          rw [← hoe]
          have HEN : Hid (entO (rtO m) (some r) = (nm, (rtO m (some r4)).1, oe)) := Lib.hid (by rw [HENT.out, HN.out, hoe]; rfl)
          have BX70 := Lib.hid (BX66.out.trans (b70.mono BX66.out.size))
          have K70' := Lib.hid (K66.out.below b70 K66.out.lt)
          have HAE : Hid (At R oe) := Lib.hid (by rw [hoe]; exact (rtO_at m HA4.out).skip _)
          have HBEL70 : Hid (Below w.heap.size w w70) := Lib.hid (D60.out.bel.trans (BX70.out.mono D60.out.bel.size))
          have HSZ70 : Hid (w60.heap.size ≤ w70.heap.size) := Lib.hid BX70.out.size
          have HOLD70 : Hid (∀ q, q < w60.heap.size → w70.heap[q]? = w60.heap[q]?) := Lib.hid (fun q h => BX70.out.block q h)
          obtain ⟨tk, htk⟩ : ∃ t, t = (rtO m (some r4)).1 := ⟨_, rfl⟩
          have HKS70 : Hid (∃ nk, KStab A (KP A vn vk) w70 nk cs (tk)) := Lib.hid (by
            obtain ⟨nk, h⟩ := HKS66.out
            rw [htk]
            exact ⟨nk, h.step b70.size (fun k _ h2 _ => b70.block k h2) (fun k _ hp => hp)⟩)
          rw [← htk] at HEN
          have hfi := HFI.out
          have HONE := HON1
          clear hoe b70 HENT HKS66 K66 BX66 htk HN HON1 HIL HZS HFI
          obtain ⟨c0, c1, c2, c3, c4, rfl⟩ := five_list hfi
          have K70 := K70'
          clear hfi K70'
          have HENT2 : Hid (remO oe + 1 ≤ remO (some r)) := Lib.hid (by have h := (entO_len (rtO m) (rtO_len m) r).1; rw [HEN.out] at h; exact h)
          have D70 := Lib.hid (D60.out.keep HBEL70.out HSZ70.out (fun q h1 h2 => HOLD70.out q h2))
          have hc3 := D70.out.box.cellAt (i := 3) rfl
          obtain ⟨w71, hw71⟩ : ∃ x, x = w70.alloc (.cells #[.string nm] 9) := ⟨_, rfl⟩
          have p71 : Has w71 w70.heap.size [.string nm] 9 := by rw [hw71]; exact Has.new w70 [.string nm] _
          have b71 : Below w70.heap.size w70 w71 := by rw [hw71]; exact (Below.refl _ _).alloc (Nat.le_refl _) _
          have D71 := Lib.hid (D70.out.later b71)
          have P71 := Lib.hid p71
          have HB71 := Lib.hid b71
          have HW71 := Lib.hid hw71
          have hsz70 := HSZ70.out
          have hboxl := D60.out.box.lt
          clear p71 b71 hw71
          go_wp2_with (at_builtin; go_must (refine wpList_append_lies _ rfl (.tmp 108) (.tmp 110) 23 rfl (A + 2) 9 i0 (.string ByteArray.empty) 1 16 Try.underlying23 HI.out HZ0.out HZ1.out HZ2.out rfl (by omega) vn ns.length (ns.map Value.string) rfl (by rw [← HW71.out]; exact D71.out.names) ⟨w70.heap.size, 0, none⟩ 1 1 [.string nm] rfl rfl ?a1y ?a2y (by omega) (by unfold maxLen; omega) (by omega) ?a3y _ rfl ?d7y))
          case a1y =>
            intro j u hj
            match j, hj with
            | 0, hj => cases hj; rw [Addr.add_lit, ← HW71.out]; exact P71.out.cellAt (i := 0) rfl
            | j + 1, hj => simp at hj
          case a2y => intro u hu; simp at hu; subst hu; rfl
          case a3y => simp; omega
          intro ga capa w72 ho hg hlo hhi
          rw [← HW71.out] at hg
          have hsz71 : w71.heap.size = w70.heap.size + 1 := by rw [HW71.out]; simp
          rw [← hsz71] at hlo
          have HKS71 : Hid (∃ nk, KStab A (KP A vn vk) w71 nk [c0, c1, c2, c3, c4] (tk)) := Lib.hid (by
            obtain ⟨nk, h⟩ := HKS70.out
            exact ⟨nk, h.step HB71.out.size (fun k _ h2 _ => HB71.out.block k h2) (fun k _ hp => hp)⟩)
          have D73 := D71.out.name ho hg hlo
          have hm := (D71.out.midN hg).1
          have HKS73 : Hid (∃ nk, KStab A (KP A (.slice (some ⟨ga, 0, none⟩) (ns.length + 1) capa) vk) (w72.setCell ⟨A + 1, 3, none⟩ (.slice (some ⟨ga, 0, none⟩) (ns.length + 1) capa)) nk [c0, c1, c2, c3, c4] (tk)) := Lib.hid (by
            obtain ⟨nk, h⟩ := HKS71.out
            exact ⟨nk, D71.out.aside hg hlo h⟩)
          have hvn : ∀ q, vn.ownBlock = some q → q < KB := fun q hq => by rw [HKB.out]; exact (D60.out.names.lt q hq).2
          have hka : A + 1 < KB := by rw [HKB.out]; exact hboxl
          have K73 : Hid (Has (w72.setCell ⟨A + 1, 3, none⟩ (.slice (some ⟨ga, 0, none⟩) (ns.length + 1) capa)) KB [c0, c1, c2, c3, c4] 26) := Lib.hid (by
            refine (heap_setCell_other w72 ⟨A + 1, 3, none⟩ KB _ (by show KB ≠ A + 1; omega)).trans ?_
            refine (hg.block KB (by rw [hsz71]; have := K70.out.lt; omega) (fun e => by have := hvn KB e.symm; omega)).trans ?_
            exact (HB71.out.block KB K70.out.lt).trans K70.out)
          have c6 := hm.cellAt (i := 3) rfl
          have f6 := hm.frozen 3
          have HD73 := Lib.hid D73
          have HKA := Lib.hid hka
          clear ho hg hlo hhi D73 hm hvn hc3 hka HKS70 HKS71 D71 P71 HB71 hsz70 D70
          go_upto_region 33 with fail
          obtain ⟨w73, hw73⟩ : ∃ x, x = w72.setCell ⟨A + 1, 3, none⟩ (.slice (some ⟨ga, 0, none⟩) (ns.length + 1) capa) := ⟨_, rfl⟩
          rw [← hw73] at HD73 HKS73 K73 ⊢
          clear hw73 c6 f6 HW71 hsz71
          obtain ⟨vn2, hvn2⟩ : ∃ v, v = Value.slice (some ⟨ga, 0, none⟩) (ns.length + 1) capa := ⟨_, rfl⟩
          rw [← hvn2] at HD73 HKS73 ⊢
          clear hvn2
          have hc4 := HD73.out.box.cellAt (i := 4) rfl
          have hq0 := K73.out.cellAt (i := 0) rfl
          have hq1 := K73.out.cellAt (i := 1) rfl
          have hq2 := K73.out.cellAt (i := 2) rfl
          have hq3 := K73.out.cellAt (i := 3) rfl
          have hq4 := K73.out.cellAt (i := 4) rfl
          obtain ⟨w74, hw74⟩ : ∃ x, x = w73.alloc (.cells #[c0, c1, c2, c3, c4] 26) := ⟨_, rfl⟩
          have p74 : Has w74 w73.heap.size [c0, c1, c2, c3, c4] 26 := by rw [hw74]; exact Has.new w73 [c0, c1, c2, c3, c4] _
          have b74 : Below w73.heap.size w73 w74 := by rw [hw74]; exact (Below.refl _ _).alloc (Nat.le_refl _) _
          have D74 := Lib.hid (HD73.out.later b74)
          have HKS74 : Hid (∃ nk, KStab A (KP A vn2 vk) w74 nk [c0, c1, c2, c3, c4] (tk)) := Lib.hid (by
            obtain ⟨nk, h⟩ := HKS73.out
            exact ⟨nk, h.step b74.size (fun k _ h2 _ => b74.block k h2) (fun k _ hp => hp)⟩)
          have P74 := Lib.hid p74
          have HB74 := Lib.hid b74
          have HW74 := Lib.hid hw74
          have hbl := HD73.out.box.lt
          obtain ⟨LK, hLK, hLS⟩ := D74.out.kids
          have HLK := Lib.hid hLK
          have HLS := Lib.hid hLS
          clear p74 b74 hw74 HKS73 hLK hLS
          go_wp2_with (at_builtin; go_must (refine wpList_append_lies _ rfl (.tmp 114) (.tmp 116) 24 rfl (A + 2) 26 i1 (.agg #[.int .u8 0, .bool false, .slice none 0 0, .slice none 0 0, .slice none 0 0]) 5 80 Try.underlying24 HI1.out HZ3.out HZ4.out HZ5.out rfl (by omega) vk ks.length LK rfl (by first | exact HLK.out | (rw [← HW74.out]; exact HLK.out)) ⟨w73.heap.size, 0, none⟩ 1 1 [c0, c1, c2, c3, c4] rfl rfl ?b1y ?b2y (by have := HLL.out; omega) (by unfold maxLen; have := HLL.out; omega) (by have := HLL.out; omega) ?b3y _ rfl ?e7y))
          case b1y =>
            intro j u hj
            try rw [← HW74.out]
            match j, hj with
            | 0, hj => cases hj; rw [Addr.add_lit]; exact P74.out.cellAt (i := 0) rfl
            | 1, hj => cases hj; rw [Addr.add_lit]; exact P74.out.cellAt (i := 1) rfl
            | 2, hj => cases hj; rw [Addr.add_lit]; exact P74.out.cellAt (i := 2) rfl
            | 3, hj => cases hj; rw [Addr.add_lit]; exact P74.out.cellAt (i := 3) rfl
            | 4, hj => cases hj; rw [Addr.add_lit]; exact P74.out.cellAt (i := 4) rfl
            | j + 5, hj => simp at hj
          case b2y =>
            intro u hu
            have h := HONE.out
            exact (Array.all_eq_true_iff_forall_mem.1 h) u (by simpa using hu)
          case b3y => simp; omega
          intro gc capc w75 ho hg hlo hhi
          try rw [← HW74.out] at hg
          have hsz74 : w74.heap.size = w73.heap.size + 1 := by rw [HW74.out]; simp
          try rw [← hsz74] at hlo
          obtain ⟨nk, hks⟩ := HKS74.out
          have D75 := D74.out.kid HLK.out HLS.out hks rfl ho hg hlo
          have hm := (D74.out.midK HLK.out hg).1
          have c7 := hm.cellAt (i := 4) rfl
          have f7 := hm.frozen 4
          have HD75 := Lib.hid D75
          clear ho hg hlo hhi D75 hm hks hc4 hq0 hq1 hq2 hq3 hq4 HKS74 P74 HB74 D74 HLK HLS
          go_wp2_with fail
          clear c7 f7
          have HRL : Hid ((ns ++ [nm]).length = (ks ++ [tk]).length) := Lib.hid (by rw [List.length_append, List.length_append, HLL.out]; rfl)
          have HRN : Hid ((ns ++ [nm]).length + remO oe ≤ M) := Lib.hid (by rw [List.length_append, List.length_singleton]; have := HENT2.out; omega)
          have hlt2 : remO oe < mm := by have := HENT2.out; omega
          have HRM := Lib.hid hlt2
          have HRZ : Hid (Z = dirO (rtO m) mm (ns ++ [nm]) (ks ++ [tk]) oe) := Lib.hid (by rw [HZF.out, HEN.out])
          go_roundg mm
          case rel => exact ⟨_, _, oe, _, _, HRL.out, HRN.out, HRM.out, HAE.out, rfl, HRZ.out, HD75.out⟩
          case measure => omega

end Go.Proofs.Ythjihibocobndaa

namespace Go.Proofs.Ythjihibocobndaa
open Go.RowKit
set_option linter.unusedVariables false

theorem rtree_all (a : Option Addr) (n cap : Nat) (R : List UInt8) (h9 : R.length ≤ 1000000) : ∀ (m dep : Nat), dep + m = 17 → ∀ (o : Option (List UInt8)) (w : World), At R o → IsB w a n cap R →
    Calls Try.prog 23 #[.slice a n cap, .int .i64 (posI R o), .int .i64 (dep : Int)] w (RTreeV R (rtO m o) w)
  | 0, dep, hd, o, w, ho, hB => by
    rw [rtO]
    cases hq : (nextO (wantO [sOpen, sType] o)).2 with
    | none => exact rt_none a n cap R w hB h9 o ho dep hq
    | some r1 => exact rt_deep a n cap R w hB h9 o ho dep (by omega) r1 hq
  | m + 1, dep, hd, o, w, ho, hB => by
    cases hq : (nextO (wantO [sOpen, sType] o)).2 with
    | none =>
      rw [rtO, if_pos (by rw [hq]; rfl)]
      exact rt_none a n cap R w hB h9 o ho dep hq
    | some r1 =>
      obtain ⟨sk, hsk⟩ : ∃ s, s = (nextO (wantO [sOpen, sType] o)).1 := ⟨_, rfl⟩
      have hp : nextO (wantO [sOpen, sType] o) = (sk, some r1) := Prod.ext hsk.symm hq
      rw [rtO, if_neg (by rw [hq]; simp), ← hsk, hq]
      by_cases h1 : sk = sRegular
      · rw [if_pos h1]
        exact rt_file a n cap R w hB h9 o ho dep (by omega) r1 (by rw [hp, h1])
      rw [if_neg h1]
      by_cases h2 : sk = sSymlink
      · rw [if_pos h2]
        exact rt_link a n cap R w hB h9 o ho dep (by omega) r1 (by rw [hp, h2])
      rw [if_neg h2]
      by_cases h3 : sk = sDirectory
      · rw [if_pos h3]
        exact rt_dir a n cap R w hB h9 o ho dep (by omega) m (fun o' w' ho' hB' => rtree_all a n cap R h9 m (dep + 1) (by omega) o' w' ho' hB') r1 (by rw [hp, h3])
      rw [if_neg h3]
      exact rt_other a n cap R w hB h9 o ho dep (by omega) sk r1 hp h1 h2 h3

/-- What the reference reads of bytes that are an archive. -/
theorem rread_of {R : List UInt8} {t : T} (h : readL R = some t) : R = archT t ∧ (sizeT t).isSome = true ∧ wantO [sMagic] (some R) = some (nodeT t) ∧ rtO 17 (some (nodeT t)) = (t, some []) := by
  obtain ⟨h1, h2⟩ := readL_some h
  obtain ⟨p, hp⟩ := Option.isSome_iff_exists.1 h2
  refine ⟨h1, h2, ?_, ?_⟩
  · rw [h1, archT, wantO_strN (by decide), wantO_nil]
  · have := rtO_of 17 t [] ⟨0, 0, p, hp⟩ (Nat.le_refl _)
    rwa [List.append_nil] at this
theorem at_start (R : List UInt8) : At R (some R) := fun r h => by cases h; exact ⟨0, Nat.zero_le _, rfl, by simp⟩
theorem posI_start (R : List UInt8) : posI R (some R) = 0 := by
  show ((R.length - R.length : Nat) : Int) = 0
  omega
theorem posI_end {R : List UInt8} : posI R (some []) = (R.length : Int) := by
  show ((R.length - 0 : Nat) : Int) = _
  omega

end Go.Proofs.Ythjihibocobndaa
