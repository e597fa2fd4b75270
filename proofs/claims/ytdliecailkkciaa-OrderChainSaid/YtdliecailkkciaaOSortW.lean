/-
  Sort, walked. Conditions: bounds on the graph.
-/
import Derived.Test.YtdliecailkkciaaOSort
namespace Go.Proofs.Ytdliecailkkciaa
open Go.RowKit
set_option linter.unusedVariables false

def lenV : Value → Nat
  | .slice _ n _ => n
  | _ => 0
theorem Pops.bound {G : List ByteArray} {N : ByteArray → Option (List ByteArray)} {out l : List ByteArray} {W : ByteArray → Option (List ByteArray)} {C : ByteArray → Option Nat} (h : Pops G N out l W C) : ∀ s, getC C s ≤ totN G N G.length := by
  induction h with
  | base => exact outC_len G N _
  | snoc _ _ _ _ ih => exact dcC_len _ _ _ ih _
theorem mem_get0 {l : List ByteArray} {n : Nat} (h : l.length = n + 1) : l.getD 0 ⟨#[]⟩ ∈ l := getD_mem2 (by omega)
theorem heap_least {l : List ByteArray} (h : HeapN l.length l) : ∀ y ∈ l, ¬ btsOf y < btsOf (l.getD 0 ⟨#[]⟩) := by
  intro y hy
  obtain ⟨i, hi, rfl⟩ := List.getElem_of_mem hy
  have := h.least i hi
  unfold at' at this
  rwa [getD_get hi] at this
set_option maxRecDepth 100000 in
set_option maxHeartbeats 8000000 in
theorem gsort_any (w : World) (gb : Nat) (G : List ByteArray) (N : ByteArray → Option (List ByteArray)) (h : Gr w gb G N) (hG : G.length ≤ 1000) (hT : totN G N G.length ≤ 5000) (hinc : G.Pairwise (fun x y => btsOf x < btsOf y)) (hN : ∀ x, (N x).isSome = true → x ∈ G) (hsz : ∀ s ∈ G, s.size ≤ maxLen) (hsn : ∀ s t, t ∈ getN N s → t.size ≤ maxLen) :
    Calls Try.prog 10 #[.pointer (some ⟨gb, 0, none⟩)] w fun e w' => Below w.heap.size w w' ∧ ∃ out W C, Pops G N out [] W C ∧ Keep G N W C out [] ∧ (((∀ s, W s = none) ∧ ∃ v, e = .returned (.tuple #[v, .int .i64 0]) ∧ w'.ownsRow w.heap.size 9 1 v out.length (out.map Value.string)) ∨ ((¬ ∀ s, W s = none) ∧ e = .returned (.tuple #[.slice none 0 0, .int .i64 10]))) := by
  have hnd : G.Nodup := List.Pairwise.imp (R := fun x y : ByteArray => btsOf x < btsOf y) (S := fun x y => x ≠ y) (fun {a b} h e => by subst e; exact bt_irr _ h) hinc
  obtain ⟨i0, hi0, hz0, hz1, hz2⟩ := info_parts info_str
  have HI := Lib.hid hi0
  have HZ0 := Lib.hid hz0
  have HZ1 := Lib.hid hz1
  have HZ2 := Lib.hid hz2
  have HGR := Lib.hid h
  have HG := Lib.hid hG
  have HT := Lib.hid hT
  have HINC := Lib.hid hinc
  have HN := Lib.hid hN
  have HSZ := Lib.hid hsz
  have HSN := Lib.hid hsn
  have HND := Lib.hid hnd
  clear h hG hT hinc hN hsz hsn hnd hi0 hz0 hz1 hz2
  go_enter Try.func10, Try.ntmps10
  go_wp2_with fail
  refine (newQueue_any w gb G N HGR.out HG.out (by have := HT.out; omega) HSZ.out HSN.out).mono ?_
  rintro e w1 ⟨wb, cb, q, rfl, hwb, hlow, k, k', rv, MW, hqs, hk, hk'⟩
  have S1 : Hid (SL w w1 G N q (q + 1) wb cb k k' (.slice none 0 0) rv [] [] (outR G N G.length) MW (outW G N G.length) (outC G N G.length)) := Lib.hid
    ⟨hlow, hqs, outR_heap HINC.out, .base, Keep.start HND.out HN.out, World.ownsRow_nil _ _ _ _, fun g hg => (by cases hg), fun _ _ _ _ _ e => (by cases e), by simpa using hk'⟩
  have HWB := Lib.hid hwb
  have HORD := Lib.hid hqs.ord
  clear hwb hlow hqs hk hk'
  go_wp2_with fail
  go_loopw [5] (fun lv wr => ∃ out l k k' rv MW W C, SL w wr G N q (q + 1) wb cb k k' lv rv out out l MW W C) (fun lv _ => G.length - lenV lv)
  case atStart => exact ⟨[], _, k, k', rv, MW, _, _, S1.out⟩
  case round =>
    clear S1
    obtain ⟨out, l, k, k', rv, MW, W, C, hs⟩ := hrel
    have HS := Lib.hid hs
    have c0 := hs.qs.hp.cell
    obtain ⟨ra, rc, hrv⟩ := hs.qs.hp.form
    rw [hrv] at c0
    obtain ⟨la, lc, rfl, _⟩ := owns_isS hs.own
    clear hs hrv
    by_cases hz : l.length = 0
    · obtain rfl : l = [] := List.length_eq_zero_iff.1 hz
      clear hz
      obtain ⟨c, hlen, hc0, hcn⟩ := HS.out.qs.wm.map.len Try.underlying45 3
      have c1 := HS.out.qs.hp.box.cellAt (i := 1) rfl
      have HNONE : Hid ((∀ s, W s = none) ↔ c = 0) := Lib.hid (by
        rw [hc0]
        constructor
        · intro h s
          have := HS.out.qs.wm.same s
          rw [h s] at this
          cases hm : MW s with
          | none => rfl
          | some u => rw [hm] at this; cases this
        · intro h s
          have := HS.out.qs.wm.same s
          rw [h s] at this
          cases hm : W s with
          | none => rfl
          | some u => rw [hm] at this; cases this)
      have hl0 : ¬ (0 : Int) < (([] : List ByteArray).length : Int) := by simp
      clear hc0 hcn
      obtain ⟨z, hzz⟩ : ∃ z : Int, z = (c : Int) := ⟨_, rfl⟩
      rw [← hzz] at hlen
      by_cases hc : c = 0
      · have hzc : ¬ (0 : Int) < z := by omega
        have HCC := Lib.hid hc
        clear hc hzz
        go_wp2_with fail
        refine bodyPost_ret (results_tmp2 rfl _ _ _) rfl ?_
        exact ⟨HS.out.low, out, W, C, HS.out.pops, HS.out.keep, .inl ⟨HNONE.out.2 HCC.out, _, rfl, owns_down HS.out.own (by have := HWB.out; have := HORD.out; omega)⟩⟩
      · have hzc : (0 : Int) < z := by omega
        have HCC := Lib.hid hc
        clear hc hzz
        go_wp2_with fail
        refine bodyPost_ret (results_tmp2 rfl _ _ _) rfl ?_
        exact ⟨HS.out.low, out, W, C, HS.out.pops, HS.out.keep, .inr ⟨by first | exact fun h => HCC.out (HNONE.out.1 h) | exact Classical.not_forall.1 (fun h => HCC.out (HNONE.out.1 h)), rfl⟩⟩
    · obtain ⟨n, hn⟩ : ∃ n, l.length = n + 1 := ⟨l.length - 1, by omega⟩
      have hl0 : (0 : Int) < (l.length : Int) := by omega
      have HLN := Lib.hid hn
      obtain ⟨x, hx⟩ : ∃ x, x = l.getD 0 ⟨#[]⟩ := ⟨_, rfl⟩
      have HX := Lib.hid hx
      have HXG : Hid (x ∈ G) := Lib.hid (HS.out.keep.sub x (List.mem_append_right _ (by rw [hx]; exact mem_get0 hn)))
      have HUL : Hid ((getN W x).length ≤ totN G N G.length) := Lib.hid (by
        rcases HS.out.keep.rows x with e | e
        · rw [e]; exact outW_len G N _ x
        · rw [e]; exact Nat.zero_le _)
      have HUG : Hid (∀ u ∈ getN W x, u.size ≤ maxLen) := Lib.hid (fun u hu => by
        rcases HS.out.keep.rows x with e | e
        · rw [e] at hu; exact HSZ.out u (outW_in G N _ (Nat.le_refl _) x u hu)
        · rw [e] at hu; cases hu)
      clear hz hn hx
      go_wp2_with fail
      refine (next_any wr q (q + 1) wb cb k k' n rv l MW W C x (getN W x) rfl HS.out.qs HLN.out HS.out.heap HX.out (HSZ.out x HXG.out) HUG.out (by have := HUL.out; have := HT.out; have := HS.out.keep.len; have := HG.out; omega) (by
        have h1 := HS.out.count
        have h2 := HS.out.keep.len
        have h3 := HG.out
        have h4 : (out.length + 1) * totN G N G.length ≤ 1001 * 5000 := Nat.mul_le_mul (by omega) HT.out
        omega) (fun s => Nat.le_trans (HS.out.pops.bound s) (by have := HT.out; omega)) (HS.out.keep.inv.one HXG.out)).mono ?_
      rintro e w2 ⟨rfl, kk, rv', l', l0, hf, hq, hkk, h0, hl, hh⟩
      have S2 := Lib.hid (HS.out.next HWB.out HND.out (by rw [HX.out]; exact heap_least HS.out.heap) hf hq hkk h0 hl hh)
      have HOL : Hid (out.length + 1 ≤ 1000) := Lib.hid (by have := HS.out.keep.len; have := HLN.out; have := HG.out; omega)
      have HOG : Hid (out.length + 1 ≤ G.length) := Lib.hid (by have := HS.out.keep.len; have := HLN.out; omega)
      clear hf hq hkk h0 hl hh c0 hl0 HS
      go_wp2_with (at_builtin; go_must (refine wpList_append_lies _ rfl (.tmp 16) (.tmp 19) 22 rfl (q + 1) 9 i0 (.string ByteArray.empty) 1 16 Try.underlying22 HI.out HZ0.out HZ1.out HZ2.out rfl (by omega) _ out.length (out.map Value.string) rfl (S2.out.own.alloc _) ⟨w2.heap.size, 0, none⟩ 1 1 [.string x] rfl rfl ?a1 ?a2 ?a3 ?a4 ?a5 ?a6 _ rfl ?a7))
      try (case a1 => (intro j u hj; rw [Addr.add_mid]; exact (Has.new w2 [.string x] _).cellAt (by rw [Nat.zero_add]; exact hj)))
      try (case a2 => first | rfl | (intro u hu; simp only [List.mem_cons, List.not_mem_nil, or_false] at hu; rcases hu with rfl; rfl))
      try (case a3 => omega)
      try (case a4 => (have := HOL.out; unfold maxLen; omega))
      try (case a5 => (have := HOL.out; omega))
      try (case a6 => (have := S2.out.qs.hp.size; simp; omega))
      intro g1 cap1 w3 hown hgrow hat hlt2
      have S3 := Lib.hid (S2.out.add (lv' := .slice (some ⟨g1, 0, none⟩) (out.length + 1) cap1) (vs' := out ++ [x]) (by have := HWB.out; have := HORD.out; omega) hgrow.os hgrow.tape hgrow.output (by have := hgrow.size; simp at this; omega) (fun g hg hv => (hgrow.block g (by simp; omega) hv).trans (Below.heap_alloc w2 _ g hg)) (by rw [List.length_append, List.map_append]; exact hown) (fun g hg => by
        simp only [Value.ownBlock, Option.some.injEq] at hg
        subst hg
        exact hat.imp id (fun e => by omega)))
      clear hown hgrow hat hlt2
      go_wp2_with fail
      go_roundw
      case rel => exact ⟨out ++ [x], l', k, kk, rv', _, _, _, S3.out⟩
      case measure => have := HOG.out; simp [lenV]; omega
end Go.Proofs.Ytdliecailkkciaa
