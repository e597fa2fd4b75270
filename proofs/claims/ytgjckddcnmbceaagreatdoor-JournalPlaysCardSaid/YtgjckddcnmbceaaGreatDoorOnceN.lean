/-
  The contract of makeWords. Conditions: the hasher's block holds 140 cells; the primes lie where the program's text lays them.
-/
import Derived.Test.YtgjckddcnmbceaaGreatDoorBut
import Derived.Test.YtgjckddcnmbceaaGreatDoorDivN
import Derived.Tactics
import Derived.Tactics2
import Derived.Defers
import Derived.Laws.Pointers
import Derived.Laws.LoneSync
import Derived.RegionTactic
import Derived.RegionCalls
import Derived.ChangeAlike
namespace Go.Proofs.YtgjckddcnmbceaaGreatDoor
open Go.RowKit

def primesL : List Nat := [2, 3, 5, 7, 11, 13, 17, 19, 23, 29, 31, 37, 41, 43, 47, 53, 59, 61, 67, 71, 73, 79, 83, 89, 97, 101, 103, 107, 109, 113, 127, 131, 137, 139, 149, 151, 157, 163, 167, 173, 179, 181, 191, 193, 197, 199, 211, 223, 227, 229, 233, 239, 241, 251, 257, 263, 269, 271, 277, 281, 283, 293, 307, 311]

def wordsK : List Nat := [0x428a2f98, 0x71374491, 0xb5c0fbcf, 0xe9b5dba5, 0x3956c25b, 0x59f111f1, 0x923f82a4, 0xab1c5ed5,
  0xd807aa98, 0x12835b01, 0x243185be, 0x550c7dc3, 0x72be5d74, 0x80deb1fe, 0x9bdc06a7, 0xc19bf174,
  0xe49b69c1, 0xefbe4786, 0x0fc19dc6, 0x240ca1cc, 0x2de92c6f, 0x4a7484aa, 0x5cb0a9dc, 0x76f988da,
  0x983e5152, 0xa831c66d, 0xb00327c8, 0xbf597fc7, 0xc6e00bf3, 0xd5a79147, 0x06ca6351, 0x14292967,
  0x27b70a85, 0x2e1b2138, 0x4d2c6dfc, 0x53380d13, 0x650a7354, 0x766a0abb, 0x81c2c92e, 0x92722c85,
  0xa2bfe8a1, 0xa81a664b, 0xc24b8b70, 0xc76c51a3, 0xd192e819, 0xd6990624, 0xf40e3585, 0x106aa070,
  0x19a4c116, 0x1e376c08, 0x2748774c, 0x34b0bcb5, 0x391c0cb3, 0x4ed8aa4a, 0x5b9cca4f, 0x682e6ff3,
  0x748f82ee, 0x78a5636f, 0x84c87814, 0x8cc70208, 0x90befffa, 0xa4506ceb, 0xbef9a3f7, 0xc67178f2]

theorem wordsK_length : wordsK.length = 64 := rfl

def rootAt : Nat → Nat
  | 0 => 30064771072
  | i + 1 => cubeRun 64 (primesL.getD (63 - i) 0) (rootAt i)

theorem roots_ok : ∀ i, i < 64 → cubeOk 64 (primesL.getD (63 - i) 0) (rootAt i) = true ∧ rootAt (i + 1) % 4294967296 = wordsK.getD (63 - i) 0 := by decide +kernel

def rowW (L : List Value) (k : Nat) : List Value := L.take (67 - k) ++ ((wordsK.drop (64 - k)).map wv ++ L.drop 67)

theorem rowW_zero (L : List Value) : rowW L 0 = L := by
  unfold rowW
  rw [List.drop_eq_nil_of_le (by rw [wordsK_length]; omega)]
  simp

theorem rowW_set (L : List Value) (k : Nat) (hk : k < 64) (hL : L.length = 140) : (rowW L k).set (3 + (63 - k)) (wv (wordsK.getD (63 - k) 0)) = rowW L (k + 1) := by
  unfold rowW
  have e1 : 3 + (63 - k) = 66 - k := by omega
  have e2 : 67 - k = (66 - k) + 1 := by omega
  have e3 : 67 - (k + 1) = 66 - k := by omega
  have e4 : 64 - (k + 1) = 63 - k := by omega
  have e5 : wordsK.drop (63 - k) = wordsK.getD (63 - k) 0 :: wordsK.drop (64 - k) := by
    rw [List.drop_eq_getElem_cons (by rw [wordsK_length]; omega), show 63 - k + 1 = 64 - k from by omega]
    congr 1
    rw [List.getD_eq_getElem?_getD, List.getElem?_eq_getElem (by rw [wordsK_length]; omega)]; rfl
  rw [e1, e2, e3, e4, e5]
  have e6 : L.take (66 - k + 1) = L.take (66 - k) ++ [L[66 - k]'(by omega)] := by simp
  rw [e6]
  apply List.ext_getElem?
  intro i
  have hl : (L.take (66 - k)).length = 66 - k := by simp; omega
  generalize L.take (66 - k) = A at *
  rw [List.append_assoc, List.set_append_right _ _ (by omega), hl, Nat.sub_self]
  simp

theorem rowW_length (L : List Value) (k : Nat) (hk : k ≤ 64) (hL : L.length = 140) : (rowW L k).length = 140 := by
  simp [rowW, wordsK_length, hL]; omega

set_option maxRecDepth 100000 in
set_option maxHeartbeats 1000000 in
theorem words_any (b : Nat) (L : List Value) (t : TypeId) (w : World) (hL : L.length = 140) (hb : Has w b L t) (hb1 : 3 < b)
    (hP : ∀ i, i < 64 → w.cell? ⟨3, i, none⟩ = some (.int .u64 ((primesL.getD i 0 : Nat) : Int))) :
    Calls Tryz.prog 83 #[.pointer (some ⟨b, 0, none⟩)] w fun e w' => e = .returned (.tuple #[]) ∧ Has w' b (rowW L 64) t ∧ But w.heap.size b w w' := by
  have HP := Lib.hid hP
  clear hP
  have hblt := hb.lt
  go_enter Tryz.func83, Tryz.ntmps83
  go_wp2_with fail
  go_loopw [2, 5] (fun rr ii wr => ∃ k : Nat, k ≤ 64 ∧ ii = .int .i64 k ∧ rr = .int .u64 (rootAt k : Int) ∧ Has wr b (rowW L k) t ∧ But w.heap.size b w wr) (fun _ ii _ => 64 - (intOf ii).toNat)
  case atStart => exact ⟨0, Nat.zero_le _, rfl, rfl, by rw [rowW_zero]; exact hb, But.refl _ _ _⟩
  case round =>
    obtain ⟨k, hk, rfl, rfl, hh, hbut⟩ := hrel
    by_cases hlt : k < 64
    · obtain ⟨hok, hw⟩ := roots_ok k hlt
      have hprime : wr.cell? ⟨3, 63 - k, none⟩ = some (.int .u64 ((primesL.getD (63 - k) 0 : Nat) : Int)) :=
        (World.cell?_of_block (w := w) (hbut.block 3 (by omega) (by omega))).trans (HP.out _ (by omega))
      obtain ⟨u, hu⟩ : ∃ u, (rowW L k)[3 + (63 - k)]? = some u := ⟨_, List.getElem?_eq_getElem (by rw [rowW_length L k hk hL]; omega)⟩
      have hcell := hh.cellAt hu
      have hfree := hh.frozen (3 + (63 - k))
      have hnext : rootAt (k + 1) = cubeRun 64 (primesL.getD (63 - k) 0) (rootAt k) := rfl
      have HS := Lib.hid (rowW_set L k hlt hL)
      obtain ⟨N, hNd⟩ : ∃ N, N = rootAt (k + 1) := ⟨_, rfl⟩
      rw [← hNd] at hnext hw
      have HN := Lib.hid hnext
      have HND := Lib.hid hNd
      have HOK := Lib.hid hok
      generalize primesL.getD (63 - k) 0 = p at *
      generalize wordsK.getD (63 - k) 0 = kw at *
      have R1 : IntKind.u32.wrap (N : Int) = (kw : Int) := by
        simp [IntKind.wrap, IntKind.bits, IntKind.signed]; omega
      have HK := Lib.hid hw
      have HU := Lib.hid hu
      clear hw hu hok hnext hNd
      have hk64 : (k : Int) < 64 := by omega
      go_wp2_with fail
      refine (cube_any p (rootAt k) 64 _ HOK.out).mono ?_
      rintro e w' ⟨rfl, rfl⟩
      rw [← HN.out]
      go_wp2_with fail
      go_roundw
      case rel => exact ⟨k + 1, by omega, by go_num, by rw [HND.out], by rw [← HS.out]; exact hh.set _ _, hbut.setCell (.inr rfl) _⟩
      case measure => simp [intOf]; omega
    · obtain rfl : k = 64 := by omega
      go_wp2_with fail
      go_end0
      exact ⟨rfl, hh, hbut⟩

end Go.Proofs.YtgjckddcnmbceaaGreatDoor

namespace Go.Proofs.YtgjckddcnmbceaaGreatDoor
open Go.RowKit

theorem disable (w : World) : (callFunc 101 #[]).run Tryz.prog w = .ok (.value (.tuple #[])) w := run_call_mark0 Tryz.func101 (by kernel_rfl) (by kernel_rfl) (by kernel_rfl) .disable (by kernel_rfl) w
theorem enable (w : World) : (callFunc 103 #[]).run Tryz.prog w = .ok (.value (.tuple #[])) w := run_call_mark0 Tryz.func103 (by kernel_rfl) (by kernel_rfl) (by kernel_rfl) .enable (by kernel_rfl) w
theorem acquire (a : Addr) (w : World) : (callFunc 104 #[.pointer (some a)]).run Tryz.prog w = .ok (.value (.tuple #[])) w := run_call_marked Tryz.func104 (by kernel_rfl) (by kernel_rfl) (by kernel_rfl) .acquire (by kernel_rfl) a w
theorem releaseMerge (a : Addr) (w : World) : (callFunc 106 #[.pointer (some a)]).run Tryz.prog w = .ok (.value (.tuple #[])) w := run_call_marked Tryz.func106 (by kernel_rfl) (by kernel_rfl) (by kernel_rfl) .releaseMerge (by kernel_rfl) a w

theorem store_deferred (a : Addr) (x : Value) (u : FrameMode) (w : World) (hc : w.cell? a = some x) (hz : w.frozen? a = false) :
    CallsD Tryz.prog 93 #[.pointer (some a), .bool true] u w fun e u' w' => u' = u ∧ (e = .returned (.tuple #[]) ∧ w' = w.drew.setCell a (.int .u32 1)) := by
  have hc' : w.drew.cell? a = some x := by go_simp
  have hz' : w.drew.frozen? a = false := by go_simp
  have hst := run_call_store (P := Tryz.prog) Tryz.func98 (by kernel_rfl) (by kernel_rfl) (by kernel_rfl) (by kernel_rfl) (k := .u32) (y := 1) hc' hz'
  go_enter_d Tryz.func93, Tryz.ntmps93
  go_wp2
  go_region_calls
  all_goals (go_end0; exact ⟨rfl, rfl⟩)

set_option maxRecDepth 100000 in
theorem unlock_deferred (a : Addr) (u : FrameMode) (w : World) (hc : w.cell? a = some (.int .i32 1)) (hz : w.frozen? a = false) :
    CallsD Tryz.prog 92 #[.pointer (some a)] u w fun e u' w' => u' = u ∧ (e = .returned (.tuple #[]) ∧ w' = w.setCell a (.int .i32 0)) := by
  have hd := disable
  have he := enable
  have hr := releaseMerge
  have hadd := run_call_add (P := Tryz.prog) Tryz.func107 (by kernel_rfl) (by kernel_rfl) (by kernel_rfl) .i32 (by kernel_rfl) (y := -1) (s := 0) hc hz (by simp [go_sem]; rfl)
  have hcv := run_convert_to_unsafe (P := Tryz.prog) (src := 163) (dst := 167) Tryz.underlying163 Tryz.underlying167 (by kernel_rfl) hc
  go_enter_d Tryz.func92, Tryz.ntmps92
  go_wp2
  go_end0
  go_wp2
  go_end0
  exact ⟨rfl, rfl⟩

set_option maxRecDepth 100000 in
theorem lock_free (a : Addr) (w : World) (hc : w.cell? a = some (.int .i32 0)) (hz : w.frozen? a = false) :
    Calls Tryz.prog 91 #[.pointer (some a)] w fun e w' => e = .returned (.tuple #[]) ∧ w' = w.setCell a (.int .i32 1) := by
  have hd := disable
  have he := enable
  have ha := acquire
  have hcas := run_call_cas_hit (P := Tryz.prog) Tryz.func102 (by kernel_rfl) (by kernel_rfl) (by kernel_rfl) .i32 (by kernel_rfl) (y := 1) hc hz
  have hc' : (w.setCell a (.int .i32 1)).cell? a = some (.int .i32 1) := World.cell?_setCell_same w a _ hc
  have hcv := run_convert_to_unsafe (P := Tryz.prog) (src := 163) (dst := 167) Tryz.underlying163 Tryz.underlying167 (by kernel_rfl) hc'
  go_enter Tryz.func91, Tryz.ntmps91
  go_wp2
  first | go_end0 | (simp only [Exit.inBlock, Exit.then]; refine bodyPost_ret (results_none rfl _ _ _) rfl ?_) | refine bodyPost_ret (results_none rfl _ _ _) rfl ?_
  go_wp2
  go_end0
  exact ⟨rfl, rfl⟩

theorem hload_any (a : Addr) (d : Int) (w : World) (hc : w.cell? a = some (.int .u32 d)) :
    Calls Tryz.prog 86 #[.pointer (some a)] w fun e w' => e = .returned (.bool (d != 0)) ∧ w' = w := by
  have hl := run_call_load (P := Tryz.prog) Tryz.func90 (by kernel_rfl) (by kernel_rfl) (by kernel_rfl) .u32 (by kernel_rfl) hc
  go_enter Tryz.func86, Tryz.ntmps86
  go_wp2
  go_ret
  exact ⟨rfl, rfl⟩

end Go.Proofs.YtgjckddcnmbceaaGreatDoor

namespace Go.Proofs.YtgjckddcnmbceaaGreatDoor
open Go.RowKit

theorem rowW_once (L : List Value) (hL : L.length = 140) (h1 : L[1]? = some (.int .i32 0)) :
    (((rowW (L.set 1 (.int .i32 1)) 64).set 0 (.int .u32 1)).set 1 (.int .i32 0)) = (rowW L 64).set 0 (.int .u32 1) := by
  match L, hL, h1 with
  | a :: c :: d :: M, _, h1 =>
    simp at h1
    subst h1
    simp [rowW]

theorem rowW_get1 (L : List Value) (hL : L.length = 140) : (rowW L 64)[1]? = L[1]? := by
  match L, hL with
  | a :: c :: d :: M, _ => simp [rowW]
theorem rowW_get0 (L : List Value) (hL : L.length = 140) : (rowW L 64)[0]? = L[0]? := by
  match L, hL with
  | a :: c :: d :: M, _ => simp [rowW]

set_option maxRecDepth 100000 in
set_option maxHeartbeats 1600000 in
theorem slow_any (b : Nat) (L : List Value) (t : TypeId) (w : World) (hL : L.length = 140) (hb : Has w b L t) (hb1 : 3 < b)
    (h0 : L[0]? = some (.int .u32 0)) (h1 : L[1]? = some (.int .i32 0))
    (hP : ∀ i, i < 64 → w.cell? ⟨3, i, none⟩ = some (.int .u64 ((primesL.getD i 0 : Nat) : Int))) :
    Calls Tryz.prog 87 #[.pointer (some ⟨b, 0, none⟩), .func (.func 83) #[.pointer (some ⟨b, 0, none⟩)] #[]] w fun e w' => e = .returned (.tuple #[]) ∧ Has w' b ((rowW L 64).set 0 (.int .u32 1)) t ∧ But w.heap.size b w w' := by
  have hblt := hb.lt
  have c0 := hb.cellAt h0
  have c1 := hb.cellAt h1
  have f1 := hb.frozen 1
  have hs1 : Has (w.setCell ⟨b, 1, none⟩ (.int .i32 1)) b (L.set 1 (.int .i32 1)) t := hb.set 1 _
  have hL1 : (L.set 1 (.int .i32 1)).length = 140 := by simp [hL]
  have g0 : (L.set 1 (.int .i32 1))[0]? = some (.int .u32 0) := by simp [h0]
  have cd := hs1.cellAt g0
  have hP1 : ∀ i, i < 64 → (w.setCell ⟨b, 1, none⟩ (.int .i32 1)).cell? ⟨3, i, none⟩ = some (.int .u64 ((primesL.getD i 0 : Nat) : Int)) := fun i hi =>
    (World.cell?_setCell_other _ ⟨b, 1, none⟩ ⟨3, i, none⟩ _ (fun h => by have := congrArg Addr.block h; simp at this; omega)).trans (hP i hi)
  have HP1 := Lib.hid hP1
  have HS1 := Lib.hid hs1
  have HB := Lib.hid hb
  have H0 := Lib.hid h0
  have H1 := Lib.hid h1
  have CD := Lib.hid cd
  have G0 := Lib.hid g0
  clear hP hP1 hs1 hb h0 h1 cd g0
  have hnot : ∀ (x : Bool) (w : World), (Op.unary .not (.bool x)).run Tryz.prog w = .ok (.bool (!x)) w := fun _ _ => rfl
  go_enter_defers Tryz.func87, Tryz.ntmps87
  go_wp2_with (go_at_call 91; refine (lock_free ⟨b, 1, none⟩ _ c1 f1).mono ?_; rintro e w' ⟨rfl, rfl⟩)
  go_wp2_with fail
  refine (hload_any ⟨b, 0, none⟩ 0 _ CD.out).mono ?_
  rintro e w' ⟨rfl, rfl⟩
  go_wp2_with fail
  refine (words_any b _ t _ hL1 HS1.out hb1 HP1.out).mono ?_
  rintro e w2 ⟨rfl, hw2, hbut2⟩
  go_wp2_with fail
  have q0 : (rowW (L.set 1 (.int .i32 1)) 64)[0]? = some (.int .u32 0) := (rowW_get0 _ hL1).trans G0.out
  have q1 : (rowW (L.set 1 (.int .i32 1)) 64)[1]? = some (.int .i32 1) := (rowW_get1 _ hL1).trans (by simp [hL])
  refine leaves_cons (f := 93) (args := #[.pointer (some ⟨b, 0, none⟩), .bool true]) (by simp) (by simp [go_sem]) ?_
  refine (store_deferred ⟨b, 0, none⟩ (.int .u32 0) .returning _ (hw2.cellAt q0) (hw2.frozen 0)).mono ?_
  rintro e u' w'' ⟨rfl, rfl, rfl⟩
  have hw3 : Has (w2.drew.setCell ⟨b, 0, none⟩ (.int .u32 1)) b ((rowW (L.set 1 (.int .i32 1)) 64).set 0 (.int .u32 1)) t := hw2.drew.set 0 _
  have q2 : ((rowW (L.set 1 (.int .i32 1)) 64).set 0 (.int .u32 1))[1]? = some (.int .i32 1) := by rw [List.getElem?_set_ne (by omega)]; exact q1
  refine leaves_cons (f := 92) (args := #[.pointer (some ⟨b, 1, none⟩)]) (by simp [settle]) (by simp [go_sem]) ?_
  refine (unlock_deferred ⟨b, 1, none⟩ _ _ (hw3.cellAt q2) (hw3.frozen 1)).mono ?_
  rintro e u' w'' ⟨rfl, rfl, rfl⟩
  simp only [Leaves, settle]
  refine ⟨_, results_none rfl _ _ _, rfl, ?_, ?_⟩
  · rw [← rowW_once L hL H1.out]; exact hw3.set 1 _
  · have B1 : But w.heap.size b w (w.setCell ⟨b, 1, none⟩ (.int .i32 1)) := (But.refl _ _ _).setB 1 _
    exact ((B1.trans (hbut2.mono B1.size)).drew.setB 0 _).setB 1 _

set_option maxRecDepth 100000 in
set_option maxHeartbeats 1600000 in
theorem do_first (b : Nat) (L : List Value) (t : TypeId) (w : World) (hL : L.length = 140) (hb : Has w b L t) (hb1 : 3 < b)
    (h0 : L[0]? = some (.int .u32 0)) (h1 : L[1]? = some (.int .i32 0))
    (hP : ∀ i, i < 64 → w.cell? ⟨3, i, none⟩ = some (.int .u64 ((primesL.getD i 0 : Nat) : Int))) :
    Calls Tryz.prog 82 #[.pointer (some ⟨b, 0, none⟩), .func (.func 83) #[.pointer (some ⟨b, 0, none⟩)] #[]] w fun e w' => e = .returned (.tuple #[]) ∧ Has w' b ((rowW L 64).set 0 (.int .u32 1)) t ∧ But w.heap.size b w w' := by
  have C0 := Lib.hid (hb.cellAt h0)
  have hnot : ∀ (x : Bool) (w : World), (Op.unary .not (.bool x)).run Tryz.prog w = .ok (.bool (!x)) w := fun _ _ => rfl
  go_enter Tryz.func82, Tryz.ntmps82
  go_wp2_with fail
  refine (hload_any ⟨b, 0, none⟩ 0 _ C0.out).mono ?_
  rintro e w' ⟨rfl, rfl⟩
  go_wp2_with fail
  refine (slow_any b L t _ hL hb hb1 h0 h1 hP).mono ?_
  rintro e w2 ⟨rfl, hw2, hbut2⟩
  go_wp2_with fail
  go_end0
  exact ⟨rfl, hw2, hbut2⟩

theorem do_done (a : Addr) (d : Int) (hd : ¬ d = 0) (fv : Value) (w : World) (h0 : w.cell? a = some (.int .u32 d)) :
    Calls Tryz.prog 82 #[.pointer (some a), fv] w fun e w' => e = .returned (.tuple #[]) ∧ w' = w := by
  have hnot : ∀ (x : Bool) (w : World), (Op.unary .not (.bool x)).run Tryz.prog w = .ok (.bool (!x)) w := fun _ _ => rfl
  have hd' : (d != 0) = true := by simp [hd]
  go_enter Tryz.func82, Tryz.ntmps82
  go_wp2_with fail
  refine (hload_any a d _ h0).mono ?_
  rintro e w' ⟨rfl, rfl⟩
  go_wp2_with fail
  go_end0
  exact ⟨rfl, rfl⟩

end Go.Proofs.YtgjckddcnmbceaaGreatDoor
