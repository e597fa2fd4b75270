/-
  The contract of Write at a hasher whose words are not made yet, whole blocks behind it, fewer than 64 bytes to come.
-/
import Derived.Test.YtgjckddcnmbceaaGreatDoorSumN
namespace Go.Proofs.YtgjckddcnmbceaaGreatDoor
open Go.RowKit

def rowT (L : List Value) (B : List Nat) (n : Nat) : List Value :=
  (L.set 139 (.int .u64 (n : Int))).take 75 ++ (B.map byv ++ (L.set 139 (.int .u64 (n : Int))).drop (75 + B.length))

theorem rowT_low (L : List Value) (B : List Nat) (n j : Nat) (hL : L.length = 140) (hj : j < 75) : (rowT L B n)[j]? = L[j]? := by
  unfold rowT
  rw [List.getElem?_append_left (by simp [hL]; omega), List.getElem?_take_of_lt hj, List.getElem?_set_ne (by omega)]

theorem rowT_mid (L : List Value) (B : List Nat) (n i : Nat) (hL : L.length = 140) (hi : i < B.length) : (rowT L B n)[75 + i]? = some (byv (B.getD i 0)) := by
  unfold rowT
  have e : 75 + i - ((L.set 139 (.int .u64 (n : Int))).take 75).length = i := by simp [hL]
  rw [List.getElem?_append_right (by simp [hL]), e, List.getElem?_append_left (by simpa using hi)]
  exact map_get byv B i hi

theorem rowT_high (L : List Value) (B : List Nat) (n j : Nat) (hL : L.length = 140) (hB : B.length ≤ 64) (hj : 75 + B.length ≤ j) : (rowT L B n)[j]? = (L.set 139 (.int .u64 (n : Int)))[j]? := by
  unfold rowT
  rw [List.getElem?_append_right (by simp [hL]; omega), List.getElem?_append_right (by simp [hL]; omega), List.getElem?_drop]
  congr 1
  simp [hL]; omega

theorem rowT_length (L : List Value) (B : List Nat) (n : Nat) (hL : L.length = 140) (hB : B.length ≤ 64) : (rowT L B n).length = 140 := by
  simp [rowT, hL]; omega

theorem rowT_holds {L : List Value} {S T B : List Nat} {N : Nat} (h : Holds L S T N) (h0 : L[0]? = some (.int .u32 0)) (hB : B.length < 64) (hb : ∀ x ∈ B, x < 256) (hN : N + B.length < 18446744073709551616) :
    Holds (rowT L B (N + B.length)) S (B ++ T.drop B.length) (N + B.length) := by
  have hL := h.ready.1
  refine ⟨⟨rowT_length _ _ _ hL (by omega), (rowT_low _ _ _ _ hL (by omega)).trans h.ready.2.1, .inl ((rowT_low _ _ _ _ hL (by omega)).trans h0)⟩, fun j hj => (rowT_low _ _ _ _ hL (by omega)).trans (h.state j hj), ?_, ?_, h.sl, h.ss, by simp [h.tl]; omega, ?_, hN⟩
  · intro i hi
    by_cases hlt : i < B.length
    · rw [rowT_mid _ _ _ _ hL hlt]
      simp [List.getD, List.getElem?_append_left hlt]
    · rw [rowT_high _ _ _ _ hL (by omega) (by omega), List.getElem?_set_ne (by omega), h.tail i hi]
      congr 2
      rw [List.getD_eq_getElem?_getD, List.getD_eq_getElem?_getD, List.getElem?_append_right (by omega), List.getElem?_drop]
      congr 2
      omega
  · rw [rowT_high _ _ _ _ hL (by omega) (by omega), List.getElem?_set_self (by omega)]
  · intro x hx
    rcases List.mem_append.1 hx with hx | hx
    · exact hb x hx
    · exact h.ts x (List.mem_of_mem_drop hx)

set_option maxRecDepth 100000 in
set_option maxHeartbeats 2000000 in
theorem write_short (h b off cap : Nat) (L : List Value) (S T B : List Nat) (N : Nat) (w : World) (hh : Has w h L 134) (hH : Holds L S T N) (hN0 : N % 64 = 0)
    (hB0 : 0 < B.length) (hB : B.length < 64) (hN : N + B.length < 18446744073709551616) (hby : Bys w b off B) (hne : b ≠ h) :
    Calls Tryz.prog 69 #[.pointer (some ⟨h, 0, none⟩), .slice (some ⟨b, off, none⟩) B.length cap] w fun e w' => e = .returned (.tuple #[]) ∧ Has w' h (rowT L B (N + B.length)) 134 ∧ But w.heap.size h w w' := by
  have hL := hH.ready.1
  obtain ⟨n, hn⟩ : ∃ n, n = B.length := ⟨_, rfl⟩
  have cN := hh.cellAt hH.num
  have zN := hh.frozen 139
  have hR : (N : Int) % 64 = 0 := by omega
  have hR2 : (N : Int).tmod 64 = 0 := by rw [Int.tmod_eq_emod_of_nonneg (by omega)]; exact hR
  have RS : IntKind.u64.wrap ((N : Int) + (n : Int)) = ((N + n : Nat) : Int) := by rw [wrap_mod]; omega
  have hs1 : Has (w.setCell ⟨h, 139, none⟩ (.int .u64 ((N + n : Nat) : Int))) h (L.set 139 (.int .u64 ((N + n : Nat) : Int))) 134 := hh.set 139 _
  have hsz : (Tryz.prog.info? 5).map (·.size) = some 1 := by kernel_rfl
  have hby2 : ∀ v : Value, ∀ j u, (B.map byv)[j]? = some u → (w.setCell ⟨h, 139, none⟩ v).cell? ((⟨b, off, none⟩ : Addr).add j) = some u := by
    intro v j u hj
    have hjl : j < B.length := by have := (List.getElem?_eq_some_iff.1 hj).1; simpa using this
    rw [Addr.add_mid, World.cell?_setCell_other _ ⟨h, 139, none⟩ ⟨b, off + j, none⟩ _ (fun e => hne (congrArg Addr.block e).symm), hby j hjl, ← hj, map_get byv B j hjl]
    rfl
  rw [← hn] at hB0 hB hN ⊢
  have hBl : (B.map byv).length = n := by rw [List.length_map, hn]
  have hmin : (B.map byv).length = Nat.min n 64 := by rw [hBl]; exact (Nat.min_eq_left (by omega)).symm
  have hfit : 75 + (B.map byv).length ≤ (L.set 139 (.int .u64 ((N + n : Nat) : Int))).toArray.size := by rw [hBl]; simp [hL]; omega
  have hone : ∀ v ∈ B.map byv, v.oneCell' = true := by
    intro v hv
    obtain ⟨x, _, rfl⟩ := List.mem_map.1 hv
    rfl
  obtain ⟨X, hX⟩ : ∃ X, X = B.map byv := ⟨_, rfl⟩
  rw [← hX] at hBl hmin hfit hone hby2
  have HS1 := Lib.hid hs1
  have HSZ := Lib.hid hsz
  have HBY := Lib.hid hby2
  have HBL := Lib.hid hBl
  have HMIN := Lib.hid hmin
  have HFIT := Lib.hid hfit
  have HONE := Lib.hid hone
  have HX := Lib.hid hX
  have HH := Lib.hid hh
  have HNN := Lib.hid hn
  have hn64 : ¬ (64 : Int) ≤ (n : Int) := by omega
  clear hby hby2 hs1 hsz hmin hfit hone hX hh hn hH hBl
  go_enter Tryz.func69, Tryz.ntmps69
  go_upto_block 0 with fail
  obtain ⟨w1, hw1⟩ : ∃ w1, w1 = w.setCell ⟨h, 139, none⟩ (.int .u64 ((N : Int) + (n : Int))) := ⟨_, rfl⟩
  rw [← hw1]
  have hs2 : w1.heap[h]? = some (.cells (L.set 139 (.int .u64 ((N + n : Nat) : Int))).toArray 134 (0, 0)) := by rw [hw1]; exact HS1.out
  have hsrc : ∀ j u, X[j]? = some u → w1.cell? ((⟨b, off, none⟩ : Addr).add j) = some u := by rw [hw1]; exact HBY.out _
  have bb1 : But w.heap.size h w w1 := by rw [hw1]; exact (But.refl _ _ _).setB 139 _
  have HS2 := Lib.hid hs2
  have HSRC := Lib.hid hsrc
  clear hw1 hs2 hsrc cN zN
  go_wp2_with fail
  go_loopw [1] (fun pp wr => pp = .slice (some ⟨b, off, none⟩) n cap ∧ wr = w1) (fun _ _ => 0)
  case atStart => exact ⟨rfl, rfl⟩
  case round =>
    obtain ⟨rfl, rfl⟩ := hrel
    go_wp2_with (refine wpList_copy_own rfl (.tmp 72) (.tmp 73) 33 33 rfl 5 Tryz.underlying33 HSZ.out h 75 64 64 ⟨b, off, none⟩ n cap rfl rfl (L.set 139 (.int .u64 ((N + n : Nat) : Int))).toArray 134 HS2.out X HMIN.out HSRC.out HFIT.out HONE.out ?_)
    go_end0
    refine ⟨rfl, ?_, bb1.setRow (.inr rfl) _⟩
    have := setRow_heap wr h _ (rowT L B (N + n)).toArray _ _ HS2.out
    unfold rowT at this
    rw [← HX.out, ← HNN.out, ← HBL.out] at this
    have e := HBL.out
    unfold Has rowT
    rw [← HX.out, ← HNN.out]
    rw [e]
    rw [e] at this
    exact this

end Go.Proofs.YtgjckddcnmbceaaGreatDoor

namespace Go.Proofs.YtgjckddcnmbceaaGreatDoor
open Go.RowKit

theorem LaidW.but {w w' : World} {h B : Nat} (l : LaidW w) (hb : But B h w w') (h1 : 3 < h) (hB : 3 < B) : LaidW w' :=
  ⟨l.start.imp fun _ h => h.imp fun _ h => (hb.block 0 (by omega) (by omega)).trans h, fun i hi => (World.cell?_of_block (w := w) (hb.block 3 (by omega) (by omega))).trans (l.primes i hi), Nat.le_trans l.two hb.size⟩

theorem LaidW.below {w w' : World} {B : Nat} (l : LaidW w) (hb : Below B w w') (hB : 3 < B) : LaidW w' :=
  ⟨l.start.imp fun _ h => h.imp fun _ h => (hb.block 0 (by omega)).trans h, fun i hi => (hb.cell (p := ⟨3, i, none⟩) (show 3 < B by omega)).trans (l.primes i hi), Nat.le_trans l.two hb.size⟩

/-- The digest of abc, at five places. -/
theorem abc_digest : (sumL startL ([97, 98, 99] ++ (List.replicate 64 0).drop 3) (0 + 3)) = [0xba, 0x78, 0x16, 0xbf, 0x8f, 0x01, 0xcf, 0xea, 0x41, 0x41, 0x40, 0xde, 0x5d, 0xae, 0x22, 0x23, 0xb0, 0x03, 0x61, 0xa3, 0x96, 0x17, 0x7a, 0x9c, 0xb4, 0x10, 0xff, 0x61, 0xf2, 0x00, 0x15, 0xad] := by decide +kernel

end Go.Proofs.YtgjckddcnmbceaaGreatDoor
