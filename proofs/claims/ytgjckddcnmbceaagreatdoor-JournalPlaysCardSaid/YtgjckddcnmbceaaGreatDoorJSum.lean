/-
  The contract of sum: the digest of a piece's front and its bytes. Conditions: both lie in old memory; the digest's laid variables are those of the text.
-/
import Derived.Test.YtgjckddcnmbceaaGreatDoorJMath
import Derived.Test.YtgjckddcnmbceaaGreatDoorJLeaf
import Derived.Test.YtgjckddcnmbceaaGreatDoorOfN
namespace Go.Proofs.YtgjckddcnmbceaaGreatDoor
open Go.RowKit
set_option linter.unusedVariables false

theorem zeros20 : (#[.int .u8 0, .int .u8 0, .int .u8 0, .int .u8 0, .int .u8 0, .int .u8 0, .int .u8 0, .int .u8 0, .int .u8 0, .int .u8 0, .int .u8 0, .int .u8 0, .int .u8 0, .int .u8 0, .int .u8 0, .int .u8 0, .int .u8 0, .int .u8 0, .int .u8 0, .int .u8 0] : Array Value) = ((List.replicate 20 0).map byv).toArray := rfl

theorem one_bytes (L : List Nat) : (L.map byv).toArray.all (·.oneCell') = true := by
  refine all_oneCell_toArray ?_
  intro v hv
  obtain ⟨x, _, rfl⟩ := List.mem_map.1 hv
  rfl
theorem info_20 (L : List Nat) (h : L.length = 20) : (Tryz.prog.info? 110).map (·.size) = some (L.map byv).toArray.size := by rw [List.size_toArray, List.length_map, h]; kernel_rfl
theorem size_zeros (n : Nat) (L : List Nat) (h : L.length = n) : ((List.replicate n 0).map byv).toArray.size = (L.map byv).toArray.size := by simp [h]


theorem nats_length (l : List UInt8) : (nats l).length = l.length := by simp [nats]
theorem nats_get (l : List UInt8) (i : Nat) (h : i < l.length) : (nats l).getD i 0 = (l.getD i 0).toNat := by
  rw [nats, List.getD_eq_getElem?_getD, List.getElem?_map, List.getD_eq_getElem?_getD, List.getElem?_eq_getElem h]; rfl
theorem IsB.toN {w : World} {a : Option Addr} {n c : Nat} {l : List UInt8} (h : IsB w a n c l) : IsN w a n c (nats l) := by
  refine ⟨by rw [nats_length]; exact h.length, ?_, h.nil, h.room, ?_⟩
  · rcases h.at_ with h0 | ⟨b, off, e, hlt, hc⟩
    · exact .inl h0
    · refine .inr ⟨b, off, e, hlt, fun i hi => ?_⟩
      rw [nats_length] at hi
      rw [nats_get l i hi, hc i (by rw [← h.length]; exact hi)]
  · intro x hx
    obtain ⟨b, _, rfl⟩ := List.mem_map.1 hx
    exact b.toNat_lt
theorem nats_append (a b : List UInt8) : nats (a ++ b) = nats a ++ nats b := by simp [nats]
theorem sm_cells (f q : List UInt8) : (foldP (dig (nats (f ++ q))) 32).map byv = (sm f q).map bv := by
  unfold sm
  rw [List.map_map]
  refine List.map_congr_left fun x hx => ?_
  have h := foldP_lt (dig (nats (f ++ q))) (dig_lt _) 32 x hx
  show byv x = bv (UInt8.ofNat x)
  unfold byv bv
  rw [UInt8.toNat_ofNat', Nat.mod_eq_of_lt (by omega)]

theorem IsN.apart0 {w w' : World} {a : Option Addr} {len cap : Nat} {l : List Nat} {h g : Nat} (H : IsN w a len cap l) (hb : But g h w w') (hg : w.heap.size ≤ g) (hne : len ≠ 0 → ∀ b off, a = some ⟨b, off, none⟩ → b ≠ h) : IsN w' a len cap l := by
  by_cases h0 : len = 0
  · exact ⟨H.length, .inl h0, H.nil, H.room, H.small⟩
  · exact H.apart hb hg (hne h0)
/-- Behind a call that answers bytes in new memory. -/
def NewB (l : List UInt8) (w : World) (e : Ending) (w' : World) : Prop :=
  ∃ b, e = .returned (.slice (some ⟨b, 0, none⟩) l.length l.length) ∧ w.heap.size ≤ b ∧ (∃ t, Has w' b (l.map bv) t) ∧ Below w.heap.size w w'
theorem isB_has {w : World} {b : Nat} {l : List UInt8} {t : TypeId} (h : Has w b (l.map bv) t) (hl : l.length ≤ 140737488355328) : IsB w (some ⟨b, 0, none⟩) l.length l.length l := by
  refine ⟨rfl, .inr ⟨b, 0, rfl, h.lt, fun i hi => ?_⟩, (fun e => by cases e), ⟨Nat.le_refl _, by unfold maxLen; omega⟩, hl⟩
  rw [Nat.zero_add]
  exact h.cellAt (map_bv_get _ _ hi)

set_option maxRecDepth 100000 in
set_option maxHeartbeats 4000000 in
theorem sum_any2 (a : Option Addr) (n c : Nat) (f : List UInt8) (b : Option Addr) (m d : Nat) (q : List UInt8) (w : World) (hf : IsB w a n c f) (hq : IsB w b m d q) (hl : LaidW w) :
    Calls Tryz.prog 57 #[.slice a n c, .slice b m d] w (NewB (sm f q) w) := by
  have h2 := hl.two
  have hfm := hf.most
  have hqm := hq.most
  have hfl := hf.length
  have hql := hq.length
  have HF := Lib.hid hf.toN
  have HQ := Lib.hid hq.toN
  have HL := Lib.hid hl
  have HFL := Lib.hid hfl
  clear hf hq hl
  go_enter Tryz.func57, Tryz.ntmps57
  go_wp2_with fail
  refine (hnew_any w HL.out).mono ?_
  rintro e w2 ⟨rfl, hw2⟩
  obtain ⟨h, hh⟩ : ∃ h, h = w.heap.size := ⟨_, rfl⟩
  have n2 : Has w2 h newRow 134 := by rw [hw2, hh]; exact Has.new w _ _
  have b2 : Below w.heap.size w w2 := by rw [hw2]; exact (Below.refl _ _).alloc (Nat.le_refl _) _
  have s2 : w2.heap.size = w.heap.size + 1 := by rw [hw2]; simp
  rw [← hh]
  have HHH := Lib.hid hh
  have HW := Lib.hid (write_n h a n c newRow [] (nats f) w2 n2 took_new (HF.out.later b2) (fun h0 => HF.out.old h0 (by omega)) (by simp; omega) (HL.out.below b2 h2) (by omega))
  clear hw2 hh
  go_wp2_with fail
  refine HW.out.mono ?_
  rintro e w3 ⟨rfl, L3, n3, t3, bb3⟩
  rw [List.nil_append] at t3
  have l3 : LaidW w3 := (HL.out.below b2 h2).but bb3 (by have := HHH.out; omega) (by omega)
  have s3 := bb3.size
  have HW3 := Lib.hid (write_n h b m d L3 (nats f) (nats q) w3 n3 t3 ((HQ.out.later b2).apart0 bb3 (Nat.le_refl _) (fun h0 => HQ.out.old h0 (by have := HHH.out; omega))) (fun h0 => HQ.out.old h0 (by have := HHH.out; omega)) (by rw [nats_length]; omega) l3 (by have := HHH.out; omega))
  clear HW n2
  go_wp2_with fail
  refine HW3.out.mono ?_
  rintro e w4 ⟨rfl, L4, n4, t4, bb4⟩
  rw [← nats_append] at t4
  have l4 : LaidW w4 := l3.but bb4 (by have := HHH.out; omega) (by omega)
  have HS := Lib.hid (sum_took h L4 (nats (f ++ q)) w4 n4 t4 l4 (by have := HHH.out; omega))
  have s4 := bb4.size
  clear HW3 n3 t3 l3 n4 t4 l4
  go_wp2_with fail
  refine HS.out.mono ?_
  rintro e w5 ⟨rfl, n5, bb5⟩
  have s5 := bb5.size
  have c3 : Below w.heap.size w2 w3 := (bb3.mono (by omega)).below (by have := HHH.out; omega)
  have c4 : Below w.heap.size w3 w4 := (bb4.mono (by omega)).below (by have := HHH.out; omega)
  have c5 : Below w.heap.size w4 w5 := (bb5.mono (by omega)).below (by have := HHH.out; omega)
  have B5 := Lib.hid (((b2.trans c3).trans c4).trans c5)
  have hsz : w.heap.size ≤ w5.heap.size := B5.out.size
  clear HS b2 c3 c4 c5 bb3 bb4 bb5 n5 s2 s3 s4 s5
  go_wp2_with fail
  refine (fold_any (dig (nats (f ++ q))) w5 (dig_length _) (dig_lt _)).mono ?_
  rintro e w6 ⟨rfl, b6⟩
  have B6 := Lib.hid (B5.out.trans (b6.mono hsz))
  have hsz6 : w.heap.size ≤ w6.heap.size := B6.out.size
  have p1 := info_20 (foldP (dig (nats (f ++ q))) 32) (foldP_length _ 32)
  have p2 := size_zeros 20 (foldP (dig (nats (f ++ q))) 32) (foldP_length _ 32)
  have p3 := one_bytes (foldP (dig (nats (f ++ q))) 32)
  have p4 := sm_cells f q
  obtain ⟨Y, hY⟩ : ∃ Y, Y = foldP (dig (nats (f ++ q))) 32 := ⟨_, rfl⟩
  rw [← hY] at p1 p2 p3 p4 ⊢
  have P1 := Lib.hid p1
  have P2 := Lib.hid p2
  have P3 := Lib.hid p3
  have P4 := Lib.hid p4
  clear p1 p2 p3 p4 hY b6
  go_wp2_with (first | (rw [zeros20]; refine wpList_store_row rfl 110 _ _ rfl w6.heap.size (Y.map byv).toArray rfl rfl 110 _ (heap_alloc_last _ _) P1.out P2.out P3.out ?_))
  go_ret
  refine ⟨w6.heap.size, by simp [sm_length], hsz6, ⟨110, ?_⟩, below_setRow (B6.out.alloc hsz6 _) hsz6 _⟩
  have h := (Has.new w6 ((List.replicate 20 0).map byv) 110).row (Y.map byv)
  rw [P4.out] at h ⊢
  exact h

end Go.Proofs.YtgjckddcnmbceaaGreatDoor
