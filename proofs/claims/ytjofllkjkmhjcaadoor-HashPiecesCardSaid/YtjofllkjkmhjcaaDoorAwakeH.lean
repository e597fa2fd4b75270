/-
  The contract of awake.
-/
import Derived.Test.YtjofllkjkmhjcaaDoorOfS
import Derived.Lib.SlBytesConst
import Derived.Lib.SmallJoins
namespace Go.Proofs.YtjofllkjkmhjcaaDoor
open Go.RowKit

def digL : List Nat := [0xba, 0x78, 0x16, 0xbf, 0x8f, 0x01, 0xcf, 0xea, 0x41, 0x41, 0x40, 0xde, 0x5d, 0xae, 0x22, 0x23, 0xb0, 0x03, 0x61, 0xa3, 0x96, 0x17, 0x7a, 0x9c, 0xb4, 0x10, 0xff, 0x61, 0xf2, 0x00, 0x15, 0xad]

theorem of_abc (b off cap : Nat) (w : World) (hby : Bys w b off [97, 98, 99]) (hlt : b < w.heap.size) (hl : LaidW w) :
    Calls Tryd.prog 9 #[.slice (some ⟨b, off, none⟩) 3 cap] w fun e w' => e = .returned (.agg (digL.map byv).toArray) ∧ Below w.heap.size w w' := by
  have h := of_short b off cap [97, 98, 99] w (by decide) (by decide) (by decide) hby hlt hl
  refine h.mono ?_
  rintro e w' ⟨rfl, hb⟩
  refine ⟨?_, hb⟩
  show Ending.returned (.agg ((sumL startL ([97, 98, 99] ++ (List.replicate 64 0).drop 3) (0 + 3)).map byv).toArray) = _
  rw [abc_digest]; rfl

set_option maxRecDepth 100000 in
set_option maxHeartbeats 1000000 in
theorem awake_any (w : World) (hl : LaidW w) :
    Calls Tryd.prog 8 #[] w fun e w' => e = .returned (.bool true) ∧ Below w.heap.size w w' := by
  have HL := Lib.hid hl
  have h2 := hl.two
  clear hl
  have hcv := Lib.run_convert_bytes_const (P := Tryd.prog) w 22 5 #[.int .u8 97, .int .u8 98, .int .u8 99] 3 3 Tryd.underlying22 Tryd.underlying5
  go_enter Tryd.func8, Tryd.ntmps8
  go_wp2_with fail
  obtain ⟨w1, hw1⟩ : ∃ w1, w1 = w.alloc (.cells #[.int .u8 97, .int .u8 98, .int .u8 99] 5 (3, 4)) := ⟨_, rfl⟩
  have lt1 : w.heap.size < w1.heap.size := by rw [hw1]; simp
  have b1 : Below w.heap.size w w1 := by rw [hw1]; exact (Below.refl _ _).alloc (by omega) _
  have by1 : Bys w1 w.heap.size 0 [97, 98, 99] := by
    intro i hi
    rw [hw1, Nat.zero_add, Joins.cell_alloc_mark_at w _ _ _ _ _ rfl]
    match i, hi with
    | 0, _ | 1, _ | 2, _ => rfl
  clear hcv
  rw [show w.alloc (.cells #[.int .u8 97, .int .u8 98, .int .u8 99] 5 (3, 4)) = w1 from hw1.symm]
  have l1 := HL.out.below b1 h2
  refine (of_abc w.heap.size 0 3 w1 by1 lt1 l1).mono ?_
  rintro e w2 ⟨rfl, b2⟩
  have bb2 : Below w.heap.size w w2 := b1.trans (b2.mono (by omega))
  have s2 := bb2.size
  have p1 : (Tryd.prog.info? 24).map (·.size) = some (digL.map byv).toArray.size := by kernel_rfl
  have p2 : ((List.replicate 32 0).map byv).toArray.size = (digL.map byv).toArray.size := rfl
  have p3 : (digL.map byv).toArray.all (·.oneCell') = true := by
    refine all_oneCell_toArray ?_
    intro v hv
    obtain ⟨x, _, rfl⟩ := List.mem_map.1 hv
    rfl
  obtain ⟨R, hR⟩ : ∃ R, R = (digL.map byv).toArray := ⟨_, rfl⟩
  rw [← hR] at p1 p2 p3 ⊢
  have P1 := Lib.hid p1
  have P2 := Lib.hid p2
  have P3 := Lib.hid p3
  have HR := Lib.hid hR
  clear p1 p2 p3 hR hw1 b1 by1 l1 b2 lt1
  go_upto_region 2 with (rw [zeros32]; refine wpList_store_row rfl 24 _ _ rfl w2.heap.size R rfl rfl 24 _ (heap_alloc_last _ _) P1.out P2.out P3.out ?_)
  obtain ⟨w5, hw5⟩ : ∃ w5, w5 = (w2.alloc (.cells ((List.replicate 32 0).map byv).toArray 24)).setRow w2.heap.size R := ⟨_, rfl⟩
  have hw6 : w5 = w2.alloc (.cells R 24) := by rw [hw5]; exact World.setRow_alloc_new w2 _ _ _
  have p5 : Has w5 w2.heap.size (digL.map byv) 24 := by rw [hw6, HR.out]; exact Has.new w2 _ _
  have b5 : Below w.heap.size w w5 := by rw [hw6]; exact bb2.alloc (by omega) _
  rw [← hw5]
  clear hw5 hw6
  have c0 : w5.cell? ⟨w2.heap.size, 0, none⟩ = some (.int .u8 186) := p5.cellAt rfl
  have c1 : w5.cell? ⟨w2.heap.size, 1, none⟩ = some (.int .u8 120) := p5.cellAt rfl
  have c2 : w5.cell? ⟨w2.heap.size, 2, none⟩ = some (.int .u8 22) := p5.cellAt rfl
  have c3 : w5.cell? ⟨w2.heap.size, 3, none⟩ = some (.int .u8 191) := p5.cellAt rfl
  have c4 : w5.cell? ⟨w2.heap.size, 31, none⟩ = some (.int .u8 173) := p5.cellAt rfl
  go_wp2_with fail
  go_ret
  exact ⟨rfl, b5⟩

end Go.Proofs.YtjofllkjkmhjcaaDoor
