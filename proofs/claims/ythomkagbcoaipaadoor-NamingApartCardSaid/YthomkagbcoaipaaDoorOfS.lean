/-
  The contract of Of at fewer than 64 bytes (one at least), and of awake.
-/
import Derived.Test.YthomkagbcoaipaaDoorWriteS
namespace Go.Proofs.YthomkagbcoaipaaDoor
open Go.RowKit

theorem LaidW.but {w w' : World} {h B : Nat} (l : LaidW w) (hb : But B h w w') (h1 : 2 < h) (hB : 2 < B) : LaidW w' :=
  ⟨l.start.imp fun _ h => h.imp fun _ h => (hb.block 0 (by omega) (by omega)).trans h, fun i hi => (World.cell?_of_block (w := w) (hb.block 2 (by omega) (by omega))).trans (l.primes i hi), Nat.le_trans l.two hb.size⟩

theorem LaidW.below {w w' : World} {B : Nat} (l : LaidW w) (hb : Below B w w') (hB : 2 < B) : LaidW w' :=
  ⟨l.start.imp fun _ h => h.imp fun _ h => (hb.block 0 (by omega)).trans h, fun i hi => (hb.cell (p := ⟨2, i, none⟩) (show 2 < B by omega)).trans (l.primes i hi), Nat.le_trans l.two hb.size⟩

set_option maxRecDepth 100000 in
set_option maxHeartbeats 2000000 in
theorem of_short (b off cap : Nat) (B : List Nat) (w : World) (hB0 : 0 < B.length) (hB : B.length < 64) (hb : ∀ x ∈ B, x < 256) (hby : Bys w b off B) (hlt : b < w.heap.size) (hl : LaidW w) :
    Calls Tryd.prog 14 #[.slice (some ⟨b, off, none⟩) B.length cap] w fun e w' => e = .returned (.agg ((sumL startL (B ++ (List.replicate 64 0).drop B.length) (0 + B.length)).map byv).toArray) ∧ Below w.heap.size w w' := by
  have h2 := hl.two
  have HBY := Lib.hid hby
  have HL := Lib.hid hl
  clear hby hl
  go_enter Tryd.func14, Tryd.ntmps14
  go_wp2_with fail
  rw [zeros32]
  obtain ⟨w1, hw1⟩ : ∃ w1, w1 = w.alloc (.cells ((List.replicate 32 0).map byv).toArray 22) := ⟨_, rfl⟩
  have o1 : Has w1 w.heap.size ((List.replicate 32 0).map byv) 22 := by rw [hw1]; exact Has.new w _ _
  have s1 : w1.heap.size = w.heap.size + 1 := by rw [hw1]; simp
  have b1 : Below w.heap.size w w1 := by rw [hw1]; exact (Below.refl _ _).alloc (by omega) _
  rw [← hw1]
  have l1 := HL.out.below b1 h2
  refine (new_any w1 l1).mono ?_
  rintro e w2 ⟨rfl, hw2⟩
  obtain ⟨h, hh⟩ : ∃ h, h = w1.heap.size := ⟨_, rfl⟩
  have n2 : Has w2 h newRow 85 := by rw [hw2, hh]; exact Has.new w1 _ _
  have o2 : Has w2 w.heap.size ((List.replicate 32 0).map byv) 22 := by rw [hw2]; exact o1.alloc _
  have b2 : Below w.heap.size w w2 := by rw [hw2]; exact b1.alloc (by omega) _
  have s2 : w2.heap.size = w.heap.size + 2 := by rw [hw2]; simp [s1]
  rw [← hh]
  rw [s1] at hh
  have HHH := Lib.hid hh
  clear hw1 hw2 o1 b1 l1 s1 hh
  go_wp2_with fail
  refine (write_short h b off cap newRow startL (List.replicate 64 0) B 0 w2 n2 newRow_holds rfl hB0 hB (by omega) (HBY.out.below b2 hlt) (by have := HHH.out; omega)).mono ?_
  rintro e w3 ⟨rfl, n3, bb3⟩
  have hh3 := rowT_holds newRow_holds rfl hB hb (by omega)
  have o3 := o2.but bb3 (by omega) (by have := HHH.out; omega)
  have l3 : LaidW w3 := (HL.out.below b2 h2).but bb3 (by have := HHH.out; omega) (by omega)
  have s3 := bb3.size
  have L3 := Lib.hid l3
  have H3 := Lib.hid hh3
  clear hh3 l3
  go_wp2_with fail
  refine (sum_any h _ startL _ _ w3 n3 H3.out L3.out (by have := HHH.out; omega)).mono ?_
  rintro e w4 ⟨rfl, n4, bb4⟩
  have o4 := o3.but bb4 (by omega) (by have := HHH.out; omega)
  have bl : (sumL startL (B ++ (List.replicate 64 0).drop B.length) (0 + B.length)).length = 32 := bytesL_length _ 32
  have p1 : (Tryd.prog.info? 22).map (·.size) = some ((sumL startL (B ++ (List.replicate 64 0).drop B.length) (0 + B.length)).map byv).toArray.size := by rw [List.size_toArray, List.length_map, bl]; kernel_rfl
  have p2 : ((List.replicate 32 0).map byv).toArray.size = ((sumL startL (B ++ (List.replicate 64 0).drop B.length) (0 + B.length)).map byv).toArray.size := by rw [List.size_toArray, List.length_map, List.size_toArray, List.length_map, bl]; rfl
  have p3 : ((sumL startL (B ++ (List.replicate 64 0).drop B.length) (0 + B.length)).map byv).toArray.all (·.oneCell') = true := by
    refine all_oneCell_toArray ?_
    intro v hv
    obtain ⟨x, _, rfl⟩ := List.mem_map.1 hv
    rfl
  have p4 : w4.heap[w.heap.size]? = some (.cells ((List.replicate 32 0).map byv).toArray 22 (0, 0)) := o4
  obtain ⟨R2, hR2⟩ : ∃ R2, R2 = ((sumL startL (B ++ (List.replicate 64 0).drop B.length) (0 + B.length)).map byv).toArray := ⟨_, rfl⟩
  rw [← hR2] at p1 p2 p3 ⊢
  have P1 := Lib.hid p1
  have P2 := Lib.hid p2
  have P3 := Lib.hid p3
  have P4 := Lib.hid p4
  have HR2 := Lib.hid hR2
  clear p1 p2 p3 p4 hR2
  go_wp2_with (refine wpList_store_row rfl 22 _ _ rfl w.heap.size R2 rfl rfl 22 _ P4.out P1.out P2.out P3.out ?_)
  have hres : ∀ tmps : Array Value, tmps.getD 2 undef = .pointer (some ⟨w.heap.size, 0, none⟩) → (results Tryd.f14 tmps).run Tryd.prog (w4.setRow w.heap.size R2) = .ok (.agg R2) (w4.setRow w.heap.size R2) :=
    fun tmps hp => results_cell_row (fn := Tryd.f14) (p := 2) (ty := 22) Tryd.results14 tmps _ w.heap.size 22 R2 (0, 0) _ hp (setRow_heap _ _ _ _ _ _ P4.out) Tryd.underlying22 rfl P1.out
  refine bodyPost_ret (hres _ rfl) rfl ?_
  refine ⟨by rw [HR2.out], ?_⟩
  have c3 : Below w.heap.size w2 w3 := (bb3.mono (by omega)).below (by have := HHH.out; omega)
  have c4 : Below w.heap.size w3 w4 := (bb4.mono (by omega)).below (by have := HHH.out; omega)
  exact below_setRow ((b2.trans c3).trans c4) (Nat.le_refl _) _

/-- The digest of abc, at five places. -/
theorem abc_digest : (sumL startL ([97, 98, 99] ++ (List.replicate 64 0).drop 3) (0 + 3)) = [0xba, 0x78, 0x16, 0xbf, 0x8f, 0x01, 0xcf, 0xea, 0x41, 0x41, 0x40, 0xde, 0x5d, 0xae, 0x22, 0x23, 0xb0, 0x03, 0x61, 0xa3, 0x96, 0x17, 0x7a, 0x9c, 0xb4, 0x10, 0xff, 0x61, 0xf2, 0x00, 0x15, 0xad] := by decide +kernel

end Go.Proofs.YthomkagbcoaipaaDoor
