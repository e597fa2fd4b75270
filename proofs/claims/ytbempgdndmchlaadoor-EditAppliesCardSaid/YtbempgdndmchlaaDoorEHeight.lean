/-
  How far the deepest is below a tree: the program's height. Condition: how many trees there are.
-/
import Derived.Test.YtbempgdndmchlaaDoorTSize
import Derived.Test.YtbempgdndmchlaaDoorTFlat
import Derived.Deep.RegionWith
namespace Go.Proofs.YtbempgdndmchlaaDoor
open Go.RowKit
set_option linter.unusedVariables false

mutual
/-- How many levels there are below a tree. -/
def heightT : T → Nat
  | .mk _ _ _ _ ks => heightL ks
def heightL : List T → Nat
  | [] => 0
  | k :: r => Nat.max (1 + heightT k) (heightL r)
end
theorem heightT_mk (k : UInt8) (x : Bool) (d : List UInt8) (ns : List ByteArray) (ks : List T) : heightT (.mk k x d ns ks) = heightL ks := by rw [heightT]
theorem heightL_cons (k : T) (r : List T) : heightL (k :: r) = Nat.max (1 + heightT k) (heightL r) := by rw [heightL]
theorem heightL_nil : heightL [] = 0 := by rw [heightL]
theorem heightL_append : ∀ p q : List T, heightL (p ++ q) = Nat.max (heightL p) (heightL q)
  | [], q => by
    rw [List.nil_append, heightL_nil]
    exact (Nat.max_eq_right (Nat.zero_le _)).symm
  | k :: p, q => by
    rw [List.cons_append, heightL_cons, heightL_cons, heightL_append p q]
    exact (Nat.max_assoc _ _ _).symm
theorem heightL_take {l : List T} {i : Nat} (h : i < l.length) : heightL (l.take (i + 1)) = Nat.max (heightL (l.take i)) (1 + heightT (l.getD i default)) := by
  rw [List.take_succ_eq_append_getElem h, heightL_append, heightL_cons, heightL_nil]
  have e : l.getD i default = l[i] := by simp [List.getD, List.getElem?_eq_getElem h]
  rw [e]
  congr 1
  exact Nat.max_eq_left (Nat.zero_le _)
mutual
theorem heightT_lt : ∀ t : T, heightT t < sizeN t
  | .mk k x d ns ks => by
    rw [heightT_mk, sizeN_mk]
    have := heightL_le ks
    omega
theorem heightL_le : ∀ l : List T, heightL l ≤ sizeNL l
  | [] => by rw [heightL_nil]; omega
  | k :: r => by
    rw [heightL_cons, sizeNL_cons]
    have h1 := heightT_lt k
    have h2 := heightL_le r
    have h3 := sizeN_pos k
    exact Nat.max_le.2 ⟨by omega, by omega⟩
end
theorem heightL_take_le {l : List T} (i : Nat) : heightL (l.take i) ≤ sizeNL l := by
  have h1 := heightL_le (l.take i)
  have h2 := sizeNL_append (l.take i) (l.drop i)
  rw [List.take_append_drop] at h2
  omega

set_option maxRecDepth 100000 in
set_option maxHeartbeats 20000000 in
theorem height_any : ∀ (n : Nat) (cs : List Value) (t : T) (w : World), IsT w n cs t → sizeN t ≤ 1000000 →
    Calls Tryd.prog 58 #[.agg cs.toArray] w fun e w' => e = .returned (.int .i64 (heightT t : Int)) ∧ Below w.heap.size w w'
  | 0, _, _, _, ht => absurd ht (by simp [IsT])
  | n + 1, cs, .mk k x d ns ks, w, ht => by
    intro hN
    obtain ⟨ad, nd, cd, an, nn, cn, ak, nk, ck, rfl, hB, hS, hK⟩ := ht
    have HK := Lib.hid hK
    have hnk : nk = ks.length := hK.length.symm
    rw [sizeN_mk] at hN
    rw [heightT_mk]
    obtain ⟨M, hM⟩ : ∃ M, M = heightL ks := ⟨_, rfl⟩
    have HM := Lib.hid hM
    rw [← hM]
    have HZ : Hid (∀ i, heightL (ks.take i) ≤ 1000000) := Lib.hid (fun i => by have := heightL_take_le (l := ks) i; omega)
    have HZ2 : Hid (∀ i, i < ks.length → sizeN (ks.getD i default) ≤ 1000000) := Lib.hid (fun i hi => by have := sizeNL_get hi; omega)
    have HNK := Lib.hid hnk
    clear hB hS hK hM hN hnk
    go_enter Tryd.func58, Tryd.ntmps58
    go_upto_region 1 with fail
    obtain ⟨w1, hw1⟩ : ∃ w1, w1 = w.alloc (.cells #[.int .u8 (k.toNat : Int), .bool x, .slice ad nd cd, .slice an nn cn, .slice ak nk ck] 26) := ⟨_, rfl⟩
    have g1 : Has w1 w.heap.size [.int .u8 (k.toNat : Int), .bool x, .slice ad nd cd, .slice an nn cn, .slice ak nk ck] 26 := by rw [hw1]; exact Has.new w _ _
    have b1 : Below w.heap.size w w1 := by rw [hw1]; exact (Below.refl _ _).alloc (Nat.le_refl _) _
    have s1 : w1.heap.size = w.heap.size + 1 := by rw [hw1]; simp
    rw [← hw1]
    obtain ⟨g, hg⟩ : ∃ g, g = w.heap.size := ⟨_, rfl⟩
    rw [← hg] at g1 s1 b1 ⊢
    have HG := Lib.hid hg
    clear hg hw1
    have cg4 := g1.cellAt (i := 4) rfl
    have B1 := Lib.hid b1
    clear g1 b1
    go_wp2_with fail
    have info5 : Hid ((Tryd.prog.info? 26).map (·.size) = some 5) := Lib.hid (by kernel_rfl)
    go_loopw [3, 9] (fun vm vi wr => ∃ (i : Nat), i ≤ nk ∧ vi = .int .i64 i ∧ vm = .int .i64 (heightL (ks.take i) : Int) ∧ Below g w wr ∧ g + 1 ≤ wr.heap.size) (fun _ vi _ => nk - (intOf vi).toNat)
    case atStart => exact ⟨0, Nat.zero_le _, rfl, by rw [List.take_zero, heightL_nil]; rfl, B1.out, by omega⟩
    case round =>
      clear B1 cg4
      obtain ⟨i, hi, rfl, rfl, hbel, hsz⟩ := hrel
      by_cases hlt : i < nk
      · rcases HK.out.at_ with h0 | ⟨b, off, rfl, hb, hc⟩
        · omega
        obtain ⟨c0, c1, c2, c3, c4, hR, e0, e1, e2, e3, e4⟩ := hc i hlt
        have hbg : b < g := by rw [HG.out]; exact hb
        have hrange : wr.rangeAt b (off + i * 5) [c0, c1, c2, c3, c4] := fun j v hv => by
          rw [Nat.add_assoc]
          match j, hv with
          | 0, hv => cases hv; exact (hbel.cell (p := ⟨b, off + (i * 5 + 0), none⟩) hbg).trans e0
          | 1, hv => cases hv; exact (hbel.cell (p := ⟨b, off + (i * 5 + 1), none⟩) hbg).trans e1
          | 2, hv => cases hv; exact (hbel.cell (p := ⟨b, off + (i * 5 + 2), none⟩) hbg).trans e2
          | 3, hv => cases hv; exact (hbel.cell (p := ⟨b, off + (i * 5 + 3), none⟩) hbg).trans e3
          | 4, hv => cases hv; exact (hbel.cell (p := ⟨b, off + (i * 5 + 4), none⟩) hbg).trans e4
          | j + 5, hv => simp at hv
        have HRANGE := Lib.hid hrange
        have hki : (i : Int) < (nk : Int) := by omega
        have hroom := HK.out.room
        unfold maxLen at hroom
        have hni : (i : Int) + 1 ≤ 9223372036854775807 := by omega
        have hik : i < ks.length := by rw [← HNK.out]; exact hlt
        obtain ⟨q, hq⟩ : ∃ q, q = heightT (ks.getD i default) := ⟨_, rfl⟩
        obtain ⟨m, hm⟩ : ∃ m, m = heightL (ks.take i) := ⟨_, rfl⟩
        rw [← hm]
        have hq1 : q ≤ 1000000 := by have := heightT_lt (ks.getD i default); have := HZ2.out i hik; omega
        have hST : heightL (ks.take (i + 1)) = Nat.max m (1 + q) := by rw [heightL_take hik, hm, hq]
        have HST : Hid ((if m < 1 + q then 1 + q else m) = heightL (ks.take (i + 1))) := Lib.hid (by
          rw [hST]
          split
          · exact (Nat.max_eq_right (by omega)).symm
          · exact (Nat.max_eq_left (by omega)).symm)
        have hone := Lib.hid (isT_one hR)
        obtain ⟨L, hL⟩ : ∃ L, L = [c0, c1, c2, c3, c4] := ⟨_, rfl⟩
        rw [← hL] at HRANGE hR hone
        have hll : Hid (L.length = 5) := Lib.hid (by rw [hL]; rfl)
        have hA : Hid ((#[.int .u8 0, .bool false, .slice none 0 0, .slice none 0 0, .slice none 0 0] : Array Value).size = L.toArray.size) := Lib.hid (by have := hll.out; simp [this])
        have hI : Hid ((Tryd.prog.info? 26).map (·.size) = some L.toArray.size) := Lib.hid (by rw [info5.out, List.size_toArray, hll.out])
        have HR : Hid (∀ W, Below g w W → IsT W n L (ks.getD i default)) := Lib.hid (fun W hW => IsT.later (by rw [← HG.out]; exact hW) _ _ _ hR)
        have HLT := Lib.hid hlt
        have HBE := Lib.hid hbel
        have HIK := Lib.hid hik
        have HQ := Lib.hid hq
        clear hbel hc hR e0 e1 e2 e3 e4 hrange hL hST hm hik hq
        go_wp2_with (first
          | (refine wpList_load_mid rfl 26 _ rfl b (off + i * 5) rfl L _ HRANGE.out Tryd.underlying26 rfl (by rw [info5.out, hll.out]) ?_)
          | (refine wpList_store_row rfl 26 _ _ rfl wr.heap.size L.toArray rfl rfl 26 _ (heap_alloc_new wr _) hI.out hA.out hone.out ?_)
          | (refine wpList_load_row rfl 26 _ rfl wr.heap.size rfl 26 L.toArray (0, 0) _ (setRow_heap _ _ _ _ _ _ (heap_alloc_new wr _)) Tryd.underlying26 rfl hI.out ?_))
        obtain ⟨w5, hw5⟩ : ∃ w5, w5 = (wr.alloc (.cells #[.int .u8 0, .bool false, .slice none 0 0, .slice none 0 0, .slice none 0 0] 26)).setRow wr.heap.size L.toArray := ⟨_, rfl⟩
        have b5 : Below g w w5 := by
          rw [hw5]
          exact below_setRow (HBE.out.alloc (by omega) _) (by omega) _
        have s5 : w5.heap.size = wr.heap.size + 1 := by rw [hw5]; simp
        rw [← hw5]
        have K5 := Lib.hid (height_any n L (ks.getD i default) w5 (HR.out w5 b5) (HZ2.out i HIK.out))
        have B5 := Lib.hid b5
        clear hw5 b5
        refine K5.out.mono ?_
        rintro e w6 ⟨rfl, b6⟩
        have B6 := Lib.hid b6
        rw [← HQ.out]
        clear b6 K5
        by_cases hmq : m < 1 + q
        · have HS2 : Hid (1 + q = heightL (ks.take (i + 1))) := Lib.hid (by rw [← HST.out, if_pos hmq])
          have hmi : (m : Int) < 1 + (q : Int) := by omega
          clear hmq
          go_wp2_with fail
          go_roundw
          case rel => exact ⟨i + 1, by omega, by go_num, by rw [← HS2.out]; go_num, B5.out.trans (B6.out.mono (by omega)), by have := B6.out.size; omega⟩
          case measure =>
            have := HLT.out
            simp only [intOf]; omega
        · have HS2 : Hid (m = heightL (ks.take (i + 1))) := Lib.hid (by rw [← HST.out, if_neg hmq])
          have hmi : ¬ (m : Int) < 1 + (q : Int) := by omega
          clear hmq
          go_wp2_with fail
          go_roundw
          case rel => exact ⟨i + 1, by omega, by go_num, by rw [← HS2.out, Int.max_eq_left (by omega)], B5.out.trans (B6.out.mono (by omega)), by have := B6.out.size; omega⟩
          case measure =>
            have := HLT.out
            simp only [intOf]; omega
      · obtain rfl : nk = i := by omega
        have HE : Hid (heightL (ks.take nk) = M) := Lib.hid (by rw [HNK.out, List.take_of_length_le (Nat.le_refl _), HM.out])
        have HBE := Lib.hid hbel
        rw [HE.out]
        clear hbel
        go_wp2_with fail
        go_ret
        exact ⟨rfl, by rw [← HG.out]; exact HBE.out⟩

end Go.Proofs.YtbempgdndmchlaaDoor
