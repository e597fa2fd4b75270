/-
  The contract of makeWords. Conditions: the hasher's block holds 140 cells; the primes lie where the program's text lays them.
-/
import Derived.Test.YthomkagbcoaipaaDoorBut
import Derived.Test.YthomkagbcoaipaaDoorCube
namespace Go.Proofs.YthomkagbcoaipaaDoor
open Go.RowKit

def primesL : List Nat := [2, 3, 5, 7, 11, 13, 17, 19, 23, 29, 31, 37, 41, 43, 47, 53, 59, 61, 67, 71, 73, 79, 83, 89, 97, 101, 103, 107, 109, 113, 127, 131, 137, 139, 149, 151, 157, 163, 167, 173, 179, 181, 191, 193, 197, 199, 211, 223, 227, 229, 233, 239, 241, 251, 257, 263, 269, 271, 277, 281, 283, 293, 307, 311]

def wordsK : List Nat := [0x428a2f98, 0x71374491, 0xb5c0fbcf, 0xe9b5dba5, 0x3956c25b, 0x59f111f1, 0x923f82a4, 0xab1c5ed5,
  0xd807aa98, 0x12835b01, 0x243185be, 0x550c7dc3, 0x72be5d74, 0x80deb1fe, 0x9bdc06a7, 0xc19bf174,
  0xe49b69c1, 0xefbe4786, 0x0fc19dc6, 0x240ca1cc, 0x2de92c6f, 0x4a7484aa, 0x5cb0a9dc, 0x76f988da,
  0x983e5152, 0xa831c66d, 0xb00327c8, 0xbf597fc7, 0xc6e00bf3, 0xd5a79147, 0x06ca6351, 0x14292967,
  0x27b70a85, 0x2e1b2138, 0x4d2c6dfc, 0x53380d13, 0x650a7354, 0x766a0abb, 0x81c2c92e, 0x92722c85,
  0xa2bfe8a1, 0xa81a664b, 0xc24b8b70, 0xc76c51a3, 0xd192e819, 0xd6990624, 0xf40e3585, 0x106aa070,
  0x19a4c116, 0x1e376c08, 0x2748774c, 0x34b0bcb5, 0x391c0cb3, 0x4ed8aa4a, 0x5b9cca4f, 0x682e6ff3,
  0x748f82ee, 0x78a5636f, 0x84c87814, 0x8cc70208, 0x90befffa, 0xa4506ceb, 0xbef9a3f7, 0xc67178f2]

theorem wordsK_length : wordsK.length = 64 := rfl

def rootAt : Nat → Nat
  | 0 => 30064771072
  | i + 1 => cubeRun 64 (primesL.getD (63 - i) 0) (rootAt i)

theorem roots_ok : ∀ i, i < 64 → cubeOk 64 (primesL.getD (63 - i) 0) (rootAt i) = true ∧ rootAt (i + 1) % 4294967296 = wordsK.getD (63 - i) 0 := by decide +kernel

def rowW (L : List Value) (k : Nat) : List Value := L.take (67 - k) ++ ((wordsK.drop (64 - k)).map wv ++ L.drop 67)

theorem rowW_zero (L : List Value) : rowW L 0 = L := by
  unfold rowW
  rw [List.drop_eq_nil_of_le (by rw [wordsK_length]; omega)]
  simp

theorem rowW_set (L : List Value) (k : Nat) (hk : k < 64) (hL : L.length = 140) : (rowW L k).set (3 + (63 - k)) (wv (wordsK.getD (63 - k) 0)) = rowW L (k + 1) := by
  unfold rowW
  have e1 : 3 + (63 - k) = 66 - k := by omega
  have e2 : 67 - k = (66 - k) + 1 := by omega
  have e3 : 67 - (k + 1) = 66 - k := by omega
  have e4 : 64 - (k + 1) = 63 - k := by omega
  have e5 : wordsK.drop (63 - k) = wordsK.getD (63 - k) 0 :: wordsK.drop (64 - k) := by
    rw [List.drop_eq_getElem_cons (by rw [wordsK_length]; omega), show 63 - k + 1 = 64 - k from by omega]
    congr 1
    rw [List.getD_eq_getElem?_getD, List.getElem?_eq_getElem (by rw [wordsK_length]; omega)]; rfl
  rw [e1, e2, e3, e4, e5]
  have e6 : L.take (66 - k + 1) = L.take (66 - k) ++ [L[66 - k]'(by omega)] := by simp
  rw [e6]
  apply List.ext_getElem?
  intro i
  have hl : (L.take (66 - k)).length = 66 - k := by simp; omega
  generalize L.take (66 - k) = A at *
  rw [List.append_assoc, List.set_append_right _ _ (by omega), hl, Nat.sub_self]
  simp

theorem rowW_length (L : List Value) (k : Nat) (hk : k ≤ 64) (hL : L.length = 140) : (rowW L k).length = 140 := by
  simp [rowW, wordsK_length, hL]; omega

set_option maxRecDepth 100000 in
set_option maxHeartbeats 1000000 in
theorem words_any (b : Nat) (L : List Value) (t : TypeId) (w : World) (hL : L.length = 140) (hb : Has w b L t) (hb1 : 2 < b)
    (hP : ∀ i, i < 64 → w.cell? ⟨2, i, none⟩ = some (.int .u64 ((primesL.getD i 0 : Nat) : Int))) :
    Calls Tryd.prog 50 #[.pointer (some ⟨b, 0, none⟩)] w fun e w' => e = .returned (.tuple #[]) ∧ Has w' b (rowW L 64) t ∧ But w.heap.size b w w' := by
  have HP := Lib.hid hP
  clear hP
  have hblt := hb.lt
  go_enter Tryd.func50, Tryd.ntmps50
  go_wp2_with fail
  go_loopw [2, 5] (fun rr ii wr => ∃ k : Nat, k ≤ 64 ∧ ii = .int .i64 k ∧ rr = .int .u64 (rootAt k : Int) ∧ Has wr b (rowW L k) t ∧ But w.heap.size b w wr) (fun _ ii _ => 64 - (intOf ii).toNat)
  case atStart => exact ⟨0, Nat.zero_le _, rfl, rfl, by rw [rowW_zero]; exact hb, But.refl _ _ _⟩
  case round =>
    obtain ⟨k, hk, rfl, rfl, hh, hbut⟩ := hrel
    by_cases hlt : k < 64
    · obtain ⟨hok, hw⟩ := roots_ok k hlt
      have hprime : wr.cell? ⟨2, 63 - k, none⟩ = some (.int .u64 ((primesL.getD (63 - k) 0 : Nat) : Int)) :=
        (World.cell?_of_block (w := w) (hbut.block 2 (by omega) (by omega))).trans (HP.out _ (by omega))
      obtain ⟨u, hu⟩ : ∃ u, (rowW L k)[3 + (63 - k)]? = some u := ⟨_, List.getElem?_eq_getElem (by rw [rowW_length L k hk hL]; omega)⟩
      have hcell := hh.cellAt hu
      have hfree := hh.frozen (3 + (63 - k))
      have hnext : rootAt (k + 1) = cubeRun 64 (primesL.getD (63 - k) 0) (rootAt k) := rfl
      have HS := Lib.hid (rowW_set L k hlt hL)
      obtain ⟨N, hNd⟩ : ∃ N, N = rootAt (k + 1) := ⟨_, rfl⟩
      rw [← hNd] at hnext hw
      have HN := Lib.hid hnext
      have HND := Lib.hid hNd
      have HOK := Lib.hid hok
      generalize primesL.getD (63 - k) 0 = p at *
      generalize wordsK.getD (63 - k) 0 = kw at *
      have R1 : IntKind.u32.wrap (N : Int) = (kw : Int) := by
        simp [IntKind.wrap, IntKind.bits, IntKind.signed]; omega
      have HK := Lib.hid hw
      have HU := Lib.hid hu
      clear hw hu hok hnext hNd
      have hk64 : (k : Int) < 64 := by omega
      go_wp2_with fail
      refine (cube_any p (rootAt k) 64 _ HOK.out).mono ?_
      rintro e w' ⟨rfl, rfl⟩
      rw [← HN.out]
      go_wp2_with fail
      go_roundw
      case rel => exact ⟨k + 1, by omega, by go_num, by rw [HND.out], by rw [← HS.out]; exact hh.set _ _, hbut.setCell (.inr rfl) _⟩
      case measure => simp [intOf]; omega
    · obtain rfl : k = 64 := by omega
      go_wp2_with fail
      go_end0
      exact ⟨rfl, hh, hbut⟩

end Go.Proofs.YthomkagbcoaipaaDoor
